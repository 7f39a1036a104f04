"""Sketches: steps that are being drawn, and the points that stand for numbers in them.

A number x has up to five forms, points that the straightedge makes of each other: "base" (x, 0), "mid" (x/2, 1),
"top" (x, 2), "up" (x, 1) and "left" (0, x). The line from (0, 2) through the base meets y = 1 in the mid, the line
from (0, 0) through the mid meets y = 2 in the top, and so on.
"""

from rulerchest.judging import SHEET_NAMES
from rulerchest.numbers import fraction, plus, trimmed

BASE = "base"
MID = "mid"
TOP = "top"
UP = "up"
LEFT = "left"
ALL_FORMS = ("base", "mid", "top", "up", "left")
FAR = 9


class Sketch:
    """Steps, the names that are taken, the forms of numbers, and the poles between lines.

    rooted tells whether numbers may be drawn by any roots, or only by such as are real in every reading.
    """

    def __init__(self, taken, rooted=False):
        self.taken = {name: True for name in SHEET_NAMES}
        for name in taken:
            self.taken[name] = True
        self.rooted = rooted
        self.added = []
        self.many = 0
        self.forms = {}
        self.poles = {}
        for number, forms in (
            (fraction(0), {BASE: "o", MID: "v", TOP: "vv", UP: "v", LEFT: "o"}),
            (fraction(1), {BASE: "u", LEFT: "v"}),
            (fraction(2), {BASE: "uu", LEFT: "vv"}),
        ):
            self.forms[key_of(number)] = forms

    def fresh(self):
        """The next name that is not taken."""
        while True:
            self.many += 1
            name = f"q{self.many}"
            if name not in self.taken:
                return name

    def draw(self, deed):
        """A step with a fresh name; this name."""
        name = self.fresh()
        self.added.append((name, deed))
        return name

    def note(self, number, form, deed):
        """A step that draws a form of a trimmed number; its name."""
        name = self.draw(deed)
        self.learn(number, form, name)
        return name

    def learn(self, number, form, name):
        """The name has the form of the number, if no other one had it."""
        known = self.forms.setdefault(key_of(number), {})
        if form not in known:
            known[form] = name

    def alias(self, number, other):
        """The number is equal to a known one, perhaps over another tower, and has the same forms."""
        self.forms[key_of(number)] = self.forms[key_of(other)]

    def knows(self, number):
        """Whether the number has a form."""
        return key_of(number) in self.forms

    def held(self, number):
        """The forms of a number that it has."""
        return self.forms[key_of(number)]


def key_of(number):
    """What is the same for equal trimmed numbers over one tower."""
    return (number.tower.squares, number.parts)


def whole_number(n):
    """The Number n."""
    return fraction(n)


def unit_up(sketch):
    """The name of the point (1, 1)."""
    known = sketch.held(whole_number(1))
    if UP not in known:
        first = sketch.draw(("meet", "vv", "u", "uu", "v"))
        known[UP] = sketch.draw(("meet", "o", first, "vv", "uu"))
        sketch.learn(whole_number(2), MID, known[UP])
    return known[UP]


def line_of(sketch, form):
    """Names of two points of the line on which a form of all numbers stands."""
    if form == BASE:
        return ("o", "u")
    if form == LEFT:
        return ("o", "v")
    if form == TOP:
        return ("vv", unit_top(sketch))
    return ("v", unit_up(sketch))


def unit_top(sketch):
    """The name of the point (1, 2)."""
    one = whole_number(1)
    known = sketch.held(one)
    if TOP not in known:
        mid = need(sketch, one, MID)
        known[TOP] = sketch.draw(("meet", "o", mid, "u", unit_up(sketch)))
    return known[TOP]


def meet_line(sketch, number, form, a, b):
    """The name of the form of a number, which is where the line of a and b meets the line of all such forms."""
    c, d = line_of(sketch, form)
    return sketch.note(number, form, ("meet", a, b, c, d))


def cost(sketch, number, form):
    """How many meets a form of a known number needs, about."""
    known = sketch.held(number)
    if form in known:
        return 0
    if form == UP:
        return 1 + cost(sketch, number, BASE) + cost(sketch, number, TOP)
    if form == LEFT:
        return 2 + cost(sketch, number, BASE)
    if BASE in known or TOP in known:
        if form == MID or MID in known or UP in known:
            return 1
        return 2
    if MID in known:
        return 1
    return 4 if LEFT in known or UP in known else FAR


def need(sketch, number, form):
    """The name of a form of a known number, drawn if it is not there."""
    known = sketch.held(number)
    if form in known:
        return known[form]
    if form == TOP:
        return need_top(sketch, number, known)
    if form == BASE:
        return need_base(sketch, number, known)
    if form == MID:
        return need_mid(sketch, number, known)
    if form == LEFT:
        return need_left(sketch, number)
    return need_up(sketch, number)


def need_mid(sketch, number, known):
    """The mid, from the base or from the top."""
    if BASE not in known and TOP in known:
        return meet_line(sketch, number, MID, "o", known[TOP])
    return meet_line(sketch, number, MID, "vv", need(sketch, number, BASE))


def need_base(sketch, number, known):
    """The base, from the mid, or straight below other forms, or from the left."""
    if MID in known:
        return meet_line(sketch, number, BASE, "vv", known[MID])
    if TOP in known:
        if UP in known:
            return meet_line(sketch, number, BASE, known[TOP], known[UP])
    elif UP in known:
        top_of_up(sketch, number, known)
    elif LEFT in known:
        return mirrored_base(sketch, number, known[LEFT])
    return meet_line(sketch, number, BASE, "vv", need(sketch, number, MID))


def need_top(sketch, number, known):
    """The top, from the mid, or straight above other forms."""
    if number == whole_number(1):
        return unit_top(sketch)
    if MID not in known:
        if BASE in known:
            if UP in known:
                return meet_line(sketch, number, TOP, known[BASE], known[UP])
        elif UP in known:
            return top_of_up(sketch, number, known)
    return meet_line(sketch, number, TOP, "o", need(sketch, number, MID))


def top_of_up(sketch, number, known):
    """The top of a number that has no other form but the up: the up is the mid of its double, whose half is the top."""
    double = trimmed(plus(number, number))
    sketch.learn(double, MID, known[UP])
    pole = pole_between(sketch, TOP, BASE, whole_number(2))
    return meet_line(sketch, number, TOP, pole, need(sketch, double, BASE))


def need_up(sketch, number):
    """The up, straight between the base and the top."""
    if number == whole_number(1):
        return unit_up(sketch)
    base = need(sketch, number, BASE)
    return meet_line(sketch, number, UP, base, need(sketch, number, TOP))


def mirrors_for(number):
    """Two names, mirrored by the line y = x, from which this line can be reached through the number."""
    return ("vv", "uu") if number == whole_number(-1) else ("v", "u")


def need_left(sketch, number):
    """The left: the base mirrored by the line y = x."""
    first, second = mirrors_for(number)
    between = sketch.draw(("meet", first, need(sketch, number, BASE), "o", unit_up(sketch)))
    return meet_line(sketch, number, LEFT, second, between)


def mirrored_base(sketch, number, left):
    """The base: the left mirrored by the line y = x."""
    second, first = mirrors_for(number)
    between = sketch.draw(("meet", first, left, "o", unit_up(sketch)))
    return meet_line(sketch, number, BASE, second, between)


def pole_between(sketch, form, other, number):
    """The point of x = 0 from which each form of x is seen behind the other form of x times the number."""
    key = (form, other, key_of(number))
    if key not in sketch.poles:
        ahead = need(sketch, whole_number(1), form)
        sketch.poles[key] = sketch.draw(("meet", ahead, need(sketch, number, other), "o", "v"))
    return sketch.poles[key]

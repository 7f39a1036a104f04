"""Inputs that tests and measures draw: drawings, points, reckonings, marks."""

from fractions import Fraction

from helpers import TOWERS, odd_values, pair, random_number
from rulerchest.chests import TOOLS
from rulerchest.drawings import drawn
from rulerchest.errors import BadDrawing, BadName, NoName, Taken, Unlaid
from rulerchest.judging import is_name
from rulerchest.numbers import Number, fraction
from rulerchest.plane import sheet
from rulerchest.sentences import tower_of
from rulerchest.tools import NAME_COUNTS, WORDS_WITH_WAYS, is_drawing, place_of_deed, tool_of

MIDDLE_TOOLS = ("dividers", "gauge", "halver", "strip")
GREAT_TOOLS = ("compass", "corner", "disc", "rims")
SHALLOW = [tower for tower in TOWERS if len(tower.squares) <= 2]
ROOTED = [tower for tower in SHALLOW if len(tower.squares) > 0]
NAMES = tuple("abcdefgh")


def random_deed(chance, word, names):
    """A deed of this word with some of the names."""
    way = (chance.choice((1, 2)),) if word in WORDS_WITH_WAYS else ()
    return (word,) + tuple(chance.choice(names) for _ in range(NAME_COUNTS[word])) + way


def is_short(point, most=12):
    """Whether all wholes of the coordinates have few binary digits."""
    return max(n.bit_length() for number in point for part in number.parts for n in part) <= most


def random_drawing(chance, words, roots=2, most=12):
    """A drawing with deeds of these words in turn, and its points; all points are over few roots together."""
    steps, points = [], sheet()
    while len(steps) < len(words):
        deed = random_deed(chance, words[len(steps)], list(points))
        point = place_of_deed(deed, points)
        if point is None or not is_short(point, most):
            continue
        longer = dict(points)
        longer[NAMES[len(steps)]] = point
        if len(tower_of(longer).squares) <= roots:
            points = longer
            steps.append((NAMES[len(steps)], deed))
    return steps, points


def random_words(chance, many, words=tuple(NAME_COUNTS)):
    """Words of deeds, about half of them meet."""
    return [chance.choice(("meet", chance.choice(words))) for _ in range(many)]


def random_chest(chance):
    """A chest of one tool, sometimes of none or of two."""
    many = chance.choice((0, 1, 1, 1, 1, 1, 1, 1, 2))
    return tuple(sorted(chance.sample(TOOLS, many)))


def small_fraction(chance, most=9):
    """A Number that is a fraction of small wholes."""
    return fraction(*pair(Fraction(chance.randint(-most, most), chance.randint(1, most))))


def random_point(chance, towers=ROOTED, most=6):
    """A point with one fraction and one Number over a tower."""
    x, y = small_fraction(chance), random_number(chance, chance.choice(towers), most)
    return (x, y) if chance.random() < 0.5 else (y, x)


def random_rows(chance, many, hyps=1, roots=1):
    """A reckoning with small fractions, at most so many rows with hyp and with root."""
    rows = [("fraction", chance.randint(-5, 9), chance.randint(1, 5))]
    left = {"hyp": hyps, "root": roots}
    while len(rows) < many:
        word = chance.choice(("fraction", "plus", "minus", "times", "over", "hyp", "root"))
        if left.get(word, 1) > 0:
            left[word] = left.get(word, 2) - 1
            i, j = chance.randrange(len(rows)), chance.randrange(len(rows))
            if word == "fraction":
                rows.append((word, chance.randint(-5, 9), chance.randint(1, 5)))
            else:
                rows.append((word, i) if word == "root" else (word, i, j))
    return rows


def random_marks(chance, towers=SHALLOW, many=None):
    """Marks over one tower, some of them points of the sheet."""
    tower = chance.choice(towers)
    marks = {}
    for name in chance.sample(("m", "n", "k"), chance.randint(0, 3) if many is None else many):
        if chance.random() < 0.2:
            marks[name] = sheet()[chance.choice(("o", "u", "vv"))]
        else:
            marks[name] = (random_number(chance, tower, 4), random_number(chance, tower, 4))
    return marks


def needs_only(steps, chest):
    """Whether all deeds are of the straightedge or of tools of the chest."""
    return all(tool_of(deed) in ("",) + chest for _, deed in steps)


def over_longer_tower(number, tower):
    """The same number over a tower that begins with its own."""
    parts = number.parts + ((0, 1),) * (2 ** len(tower.squares) - len(number.parts))
    return Number(tower, parts)


def check_more_steps(case, steps, more, name, words=("meet",), most=200):
    """Check what holds for all more steps; the point of the name."""
    case.assertIsInstance(more, list)
    case.assertTrue(1 <= len(more) <= most, len(more))
    case.assertEqual(more[-1][0], name)
    case.assertTrue(is_drawing(list(steps) + more))
    case.assertTrue(all(deed[0] in words for _, deed in more))
    return drawn(list(steps) + more)[name]


def check_step_errors(case, asked, steps, wrong, rest):
    """Check the errors of steps and of one name behind the steps, which come ahead of all others.

    asked takes steps, a name that must be known, and the rest; wrong are values that are no names of the drawing.
    """
    for value in odd_values() + [[("a", ("gauge", "o"))], [("o", ("gauge", "o", "u"))], [["a", ("gauge", "o", "u")]]]:
        if not is_drawing(value):
            with case.assertRaises(BadDrawing):
                asked(value, None, *rest)
    with case.assertRaises(Unlaid) as caught:
        asked([("a", ("gauge", "o", "u")), ("b", ("gauge", "o", "o"))], None, *rest)
    case.assertEqual(caught.exception.at, 1)
    for value in wrong:
        with case.assertRaises(NoName) as caught:
            asked(steps, value, *rest)
        case.assertIs(caught.exception.name, value)


def check_new_name_errors(case, asked, steps):
    """Check the errors of a new name; asked takes it alone."""
    for value in odd_values() + ["A", "1a", "abcdefghi", "a_", ["q"]]:
        if not is_name(value):
            with case.assertRaises(BadName):
                asked(value)
    for value in ("o", "vv") + tuple(name for name, _ in steps):
        with case.assertRaises(Taken) as caught:
            asked(value)
        case.assertEqual(caught.exception.name, value)

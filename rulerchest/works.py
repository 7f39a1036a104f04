"""Works: a chest and a drawing, the deeds that were done, and how they are taken back."""

from rulerchest.carrying import carried
from rulerchest.chests import check_chest
from rulerchest.deedwork import is_done_with
from rulerchest.drawings import drawn, grouped
from rulerchest.errors import Needed, NoName, NotInChest, NothingDone, NotWork
from rulerchest.judging import SHEET_NAMES
from rulerchest.plane import sheet
from rulerchest.stepchecks import check_new_name
from rulerchest.tools import check_deed, check_known_names, deed_names, place_laid, tool_of, with_names
from rulerchest.verdicts import set_of_point

POOREST = {"fractions": (), "middle": ("dividers",), "all": ("compass",)}


class Stand:
    """All that a work has at a moment: its chest, drawing and points, the deeds that stand, and how it stood before."""

    def __init__(self, tools, drawing, places, done, before):
        self.tools = tools
        self.drawing = drawing
        self.places_by_name = places
        self.done = done
        self.before = before


class Block:
    """How a work stood when a block began, and the block around it."""

    def __init__(self, stand, outer):
        self.stand = stand
        self.outer = outer


class Work:
    """A live drawing with the tools of a chest; every deed can be taken back."""

    def __init__(self, chest):
        check_chest(chest)
        self.first = chest
        self.stand = Stand(chest, [], sheet(), [], None)
        self.block = None

    @property
    def chest(self):
        """The chest."""
        return self.stand.tools

    @property
    def steps(self):
        """The drawing."""
        return list(self.stand.drawing)

    @property
    def log(self):
        """The deeds that stand."""
        return list(self.stand.done)

    def __len__(self):
        """How many deeds stand."""
        return len(self.stand.done)

    def __eq__(self, other):
        return isinstance(other, Work) and self.first == other.first and self.stand.done == other.stand.done

    def __enter__(self):
        self.block = Block(self.stand, self.block)
        return self

    def __exit__(self, kind, value, trace):
        block = self.block
        if kind is not None:
            self.stand = block.stand
        self.block = block.outer

    def draw(self, name, deed):
        """Lay the deed down as the last step."""
        stand = self.stand
        points = stand.places_by_name
        check_new_name(points, name)
        check_deed(deed)
        check_known_names(deed, points)
        check_tools([(name, deed)], stand.tools)
        longer = dict(points)
        longer[name] = place_laid(deed, points)
        self.stand = following(stand, ("draw", name, deed), stand.tools, stand.drawing + [(name, deed)], longer)

    def rub(self, name):
        """Take a step out that no other one needs."""
        stand = self.stand
        check_own_name(stand, name)
        for other, deed in stand.drawing:
            if name in deed_names(deed):
                raise Needed(other)
        kept = [step for step in stand.drawing if step[0] != name]
        places = {other: point for other, point in stand.places_by_name.items() if other != name}
        self.stand = following(stand, ("rub", name), stand.tools, kept, places)

    def rename(self, name, fresh):
        """Exchange the name of a step."""
        stand = self.stand
        check_own_name(stand, name)
        check_new_name(stand.places_by_name, fresh)
        table = {name: fresh}
        steps = [(fresh if other == name else other, with_names(deed, table)) for other, deed in stand.drawing]
        places = {}
        for other, point in stand.places_by_name.items():
            places[fresh if other == name else other] = point
        self.stand = following(stand, ("rename", name, fresh), stand.tools, steps, places)

    def outfit(self, chest):
        """Exchange the chest for one that has all tools of the drawing."""
        check_chest(chest)
        stand = self.stand
        check_tools(stand.drawing, chest)
        self.stand = following(stand, ("outfit", chest), chest, stand.drawing, stand.places_by_name)

    def carry(self, chest):
        """Exchange the chest, and the drawing for one with its tools in which each name keeps its point."""
        check_chest(chest)
        stand = self.stand
        steps = carried(stand.drawing, chest)
        self.stand = following(stand, ("carry", chest), chest, steps, drawn(steps))

    def undo(self):
        """Take the last deed back that stands."""
        if self.stand.before is None:
            raise NothingDone("no deed that stands")
        self.stand = self.stand.before

    def point(self, name):
        """The point of a name of the sheet or of the drawing."""
        points = self.stand.places_by_name
        if not isinstance(name, str) or name not in points:
            raise NoName(name)
        return points[name]

    def word(self, name):
        """The word of the set of a point."""
        return set_of_point(self.point(name))

    def alike(self):
        """The ascending tuples of all names that mean one point, two or more."""
        groups = grouped(self.stand.places_by_name)
        return sorted([tuple(sorted(group)) for group in groups if len(group) > 1])

    def poorest(self, name):
        """The least chest whose set is that of the point."""
        return POOREST[self.word(name)]

    def tried(self, task):
        """What the task returns for the work; if it raises an error, all is as it was before."""
        with self as same:
            return task(same)

    def copy(self):
        """An independent work that stands alike, in no block."""
        other = Work(self.first)
        other.stand = self.stand
        return other


def following(stand, deed, tools, drawing, places):
    """How a work stands behind one more deed."""
    return Stand(tools, drawing, places, stand.done + [deed], stand)


def check_own_name(stand, name):
    """Raise NoName unless any value is a name of the drawing."""
    if not isinstance(name, str) or name not in stand.places_by_name or name in SHEET_NAMES:
        raise NoName(name)


def check_tools(steps, chest):
    """Raise NotInChest with the tool of the first step whose tool is not in the chest."""
    for _, deed in steps:
        if not is_done_with(deed, chest):
            raise NotInChest(tool_of(deed))


def check_work(value):
    """Raise NotWork unless any value is a work."""
    if not isinstance(value, Work):
        raise NotWork("no work")


def names_of_stand(stand):
    """The ascending tuple of the names of a drawing."""
    return tuple(sorted([name for name, _ in stand.drawing]))

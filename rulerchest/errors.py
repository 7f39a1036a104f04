"""The errors: each one stands directly below RulerError."""


class RulerError(ValueError):
    """Every error that the document states."""


class NotTower(RulerError):
    """A value that is no tower."""


class NotNumber(RulerError):
    """A value that is no Number."""


class BadParts(RulerError):
    """Parts that are no parts over the tower."""


class BadNumber(RulerError):
    """Wholes that make no number here."""


class NoQuotient(RulerError):
    """A quotient by zero."""


class NoRoot(RulerError):
    """A root of a number below zero."""


class NotPoint(RulerError):
    """A value that is no point."""


class EqualPoints(RulerError):
    """Two points that should be unlike are equal."""


class BadRadius(RulerError):
    """A square distance below zero."""


class BadPoints(RulerError):
    """A value that is no dict from names to points."""


class BadTurn(RulerError):
    """A value that is no turn."""


class BadDeed(RulerError):
    """A value that is no deed."""


class BadTable(RulerError):
    """A value that is no dict from names to names."""


class CannotLay(RulerError):
    """A deed that cannot be laid."""


class BadChest(RulerError):
    """A value that is no chest."""


class BadWord(RulerError):
    """A value that is no such word."""


class BadDrawing(RulerError):
    """A value that is no drawing."""


class BadTool(RulerError):
    """A value that is no such tool."""


class BadNames(RulerError):
    """A value that is no list of different names."""


class BadSequel(RulerError):
    """A value that is no sequel of the names."""


class BadOrder(RulerError):
    """Names that are not just those of the drawing."""


class BadProgram(RulerError):
    """A value that is no program."""


class BadQuestion(RulerError):
    """A value that is no question."""


class BadGiven(RulerError):
    """A value that is no list of the points for the params."""


class TooLong(RulerError):
    """A program that unfolds to too much."""


class NoRoots(RulerError):
    """A tower without rows."""


class BadReading(RulerError):
    """A value that is no real reading of the tower."""


class BadCoefficients(RulerError):
    """A value that is no coefficients."""


class NotMaker(RulerError):
    """A value that does not make the tower."""


class BadShift(RulerError):
    """A shift that is neither 0 nor 1."""


class BadForm(RulerError):
    """A value that is no form."""


class BadPath(RulerError):
    """A value that is no path of the number."""


class BadCount(RulerError):
    """A value that is no such count."""


class BadValues(RulerError):
    """A value that is no list of Numbers with an item."""


class BadRows(RulerError):
    """A value that is no reckoning."""


class BadIndex(RulerError):
    """A value that is no index of the rows."""


class BadMarks(RulerError):
    """A value that is no marks."""


class BadProduct(RulerError):
    """A value that is no product of the marks."""


class NotInField(RulerError):
    """A number outside of the field of the marks."""


class NotAlike(RulerError):
    """Marks that have unlike names."""


class BadName(RulerError):
    """A value that is no name."""


class NothingDone(RulerError):
    """No deed that stands."""


class NotWork(RulerError):
    """A value that is no work."""


class BadPlace(RulerError):
    """An index without a next one in the journal."""


class BadNumberText(RulerError):
    """A text of no Number."""

    def __init__(self, at):
        super().__init__("a text of no Number")
        self.at = at


class NoName(RulerError):
    """A name that is not there."""

    def __init__(self, name):
        super().__init__("a name that is not there")
        self.name = name


class Unlaid(RulerError):
    """A step that cannot be laid."""

    def __init__(self, at):
        super().__init__("a step that cannot be laid")
        self.at = at


class NotAhead(RulerError):
    """A name ahead of one on which it hangs."""

    def __init__(self, name):
        super().__init__("a name ahead of one on which it hangs")
        self.name = name


class Clash(RulerError):
    """A new name that is there already."""

    def __init__(self, name):
        super().__init__("a new name that is there already")
        self.name = name


class Fault(RulerError):
    """A draw that cannot be laid."""

    def __init__(self, trail):
        super().__init__("a draw that cannot be laid")
        self.trail = trail


class BadStepsText(RulerError):
    """A text of no drawing."""

    def __init__(self, at):
        super().__init__("a text of no drawing")
        self.at = at


class BadProgramText(RulerError):
    """A text of no program."""

    def __init__(self, at):
        super().__init__("a text of no program")
        self.at = at


class NoWays(RulerError):
    """A step that cannot be redrawn by ways."""

    def __init__(self, at):
        super().__init__("a step that cannot be redrawn by ways")
        self.at = at


class BadBound(RulerError):
    """A bound that is neither None nor a fraction."""

    def __init__(self, part):
        super().__init__("a bound that is neither None nor a fraction")
        self.part = part


class NotReal(RulerError):
    """A number that is not real in every reading."""

    def __init__(self, path):
        super().__init__("a number that is not real in every reading")
        self.path = path


class BelowZero(RulerError):
    """A number that is below zero in a reading."""

    def __init__(self, path):
        super().__init__("a number that is below zero in a reading")
        self.path = path


class Unworked(RulerError):
    """A row that cannot be worked."""

    def __init__(self, at):
        super().__init__("a row that cannot be worked")
        self.at = at


class BadLine(RulerError):
    """A line that is no row's."""

    def __init__(self, at):
        super().__init__("a line that is no row's")
        self.at = at


class OffLine(RulerError):
    """A name that stands for no number."""

    def __init__(self, name):
        super().__init__("a name that stands for no number")
        self.name = name


class NoTool(RulerError):
    """A row that the chest has no tool for."""

    def __init__(self, at):
        super().__init__("a row that the chest has no tool for")
        self.at = at


class OutOfReach(RulerError):
    """A point outside of the chest's set."""

    def __init__(self, word):
        super().__init__("a point outside of the chest's set")
        self.word = word


class CannotCarry(RulerError):
    """A step outside of the chest's set."""

    def __init__(self, name):
        super().__init__("a step outside of the chest's set")
        self.name = name


class Taken(RulerError):
    """A name that is taken."""

    def __init__(self, name):
        super().__init__("a name that is taken")
        self.name = name


class OutOfField(RulerError):
    """A coordinate outside of the field."""

    def __init__(self, axis):
        super().__init__("a coordinate outside of the field")
        self.axis = axis


class NotInChest(RulerError):
    """A tool that is not in the chest."""

    def __init__(self, tool):
        super().__init__("a tool that is not in the chest")
        self.tool = tool


class Needed(RulerError):
    """A name that another step needs."""

    def __init__(self, name):
        super().__init__("a name that another step needs")
        self.name = name


class BadJournal(RulerError):
    """A journal that is wrong."""

    def __init__(self, at):
        super().__init__("a journal that is wrong")
        self.at = at

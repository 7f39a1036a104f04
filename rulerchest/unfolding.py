"""Programs: done for points that are given, and made flat."""

from rulerchest.errors import BadGiven, BadProgram, BadQuestion, Fault, NoName, TooLong
from rulerchest.flattening import flat_routine
from rulerchest.judging import SHEET_NAMES, is_list
from rulerchest.numbers import compare
from rulerchest.plane import check_dict_of_points, is_point, sheet, side, square_length
from rulerchest.programs import are_routines, is_question, question_names, question_with_names
from rulerchest.tools import first_unknown, place_of_deed, with_names

MOST_DRAWS = 200


def is_program(value):
    """Whether any value is a program."""
    return are_routines(value)


def check_program(value):
    """Raise BadProgram unless any value is a program."""
    if not is_program(value):
        raise BadProgram("no program")


def holds(question, points):
    """Whether the question holds, its names standing for the points."""
    if not is_question(question):
        raise BadQuestion("no question")
    check_dict_of_points(points)
    unknown = first_unknown(question_names(question), points)
    if unknown is not None:
        raise NoName(unknown)
    return is_so(question, points)


def is_so(question, points):
    """Whether a question holds on points that have all its names."""
    word = question[0]
    if word == "can":
        return place_of_deed(question[1], points) is not None
    places = [points[name] for name in question[1:]]
    if word == "same":
        return places[0] == places[1]
    if word == "shorter":
        a, b, c, d = places
        return compare(square_length(a, b), square_length(c, d)) < 0
    a, b, c = places
    return side(a, b, c) == (1 if word == "left" else 0)


class Level:
    """A block that is being done: where it is, what its names stand for, and what its end leads to.

    lead is what the trail has ahead of the index in the block: the round of a
    repeat, 0 or 1 for an if, None for a routine. rounds is how many are left.
    results and wanted belong to a call: names of the routine and of its caller.
    """

    def __init__(self, block, names, lead, rounds):
        self.block = block
        self.names = names
        self.lead = lead
        self.rounds = rounds
        self.at = 0
        self.results = ()
        self.wanted = ()


class Run:
    """A program that is being done: the levels within each other, and what has come of them.

    The levels are a list of its own and no calls within calls, as routines may
    call one another two hundred deep.
    """

    def __init__(self, program, given):
        _, params, block, results = program[-1]
        self.routines = {routine[0]: routine for routine in program}
        self.params = params
        self.points = sheet()
        for name, place in zip(params, given):
            self.points[name] = place
        self.drawing = []
        self.answers = []
        self.used = 0
        self.ends = ()
        first = Level(block, names_for_themselves(params), None, 0)
        first.results = results
        self.levels = [first]

    def go(self):
        """Do all statements."""
        while len(self.levels) > 0:
            level = self.levels[-1]
            if level.at < len(level.block):
                self.do(level, level.block[level.at])
            elif level.rounds > 0:
                level.rounds -= 1
                level.lead += 1
                level.at = 0
            else:
                self.leave(level)

    def leave(self, level):
        """End the last level; a routine hands its results over."""
        found = tuple([level.names[name] for name in level.results])
        self.levels.pop()
        if len(self.levels) == 0:
            self.ends = found
            return
        caller = self.levels[-1]
        for name, stands_for in zip(level.wanted, found):
            caller.names[name] = stands_for
        caller.at += 1

    def do(self, level, statement):
        """Do a statement, or begin with the block to which it leads."""
        word = statement[0]
        if word == "draw":
            self.do_draw(level, statement[1], with_names(statement[2], level.names))
            level.at += 1
        elif word == "is":
            level.names[statement[1]] = level.names[statement[2]]
            level.at += 1
        elif word == "call":
            self.do_call(level, statement)
        elif word == "if":
            self.do_if(level, statement)
        elif statement[1] == 0 or len(statement[2]) == 0:
            level.at += 1
        else:
            self.levels.append(Level(statement[2], level.names, 0, statement[1] - 1))

    def do_draw(self, level, name, deed):
        """Add a step, which name stands for."""
        if len(self.drawing) == MOST_DRAWS:
            raise TooLong("a 201st draw")
        place = place_of_deed(deed, self.points)
        if place is None:
            raise Fault(self.way_here())
        step = self.next_name()
        self.points[step] = place
        self.drawing.append((step, deed))
        level.names[name] = step

    def next_name(self):
        """The first name s1, s2, .. that is no param and not yet used."""
        self.used += 1
        while f"s{self.used}" in self.params:
            self.used += 1
        return f"s{self.used}"

    def way_here(self):
        """The way through all levels to the statement that is being done."""
        trail = ()
        for level in self.levels:
            if level.lead is not None:
                trail = trail + (level.lead,)
            trail = trail + (level.at,)
        return trail

    def do_call(self, level, statement):
        """Begin with the block of another routine."""
        _, wanted, routine, args = statement
        _, params, block, results = self.routines[routine]
        names = names_for_themselves(())
        for param, arg in zip(params, args):
            names[param] = level.names[arg]
        called = Level(block, names, None, 0)
        called.results = results
        called.wanted = wanted
        self.levels.append(called)

    def do_if(self, level, statement):
        """Answer a question and begin with the block to which that leads."""
        question = question_with_names(statement[1], level.names)
        answer = is_so(question, self.points)
        self.answers.append((question, answer))
        lead = 0 if answer else 1
        self.levels.append(Level(statement[2 + lead], level.names, lead, 0))


def names_for_themselves(params):
    """The names of the sheet and of params, each one standing for itself."""
    return {name: name for name in SHEET_NAMES + params}


def run_of(program, given):
    """The program when it has been done."""
    check_program(program)
    params = program[-1][1]
    if not is_list(given) or len(given) != len(params) or not all([is_point(place) for place in given]):
        raise BadGiven("no list of as many points as there are params")
    run = Run(program, given)
    run.go()
    return run


def unfolded(program, given):
    """The steps that the last routine draws, the answers to its questions, and what its results stand for."""
    run = run_of(program, given)
    return run.drawing, run.answers, run.ends


def ran(program, given):
    """The points of what the results of the last routine stand for."""
    run = run_of(program, given)
    return tuple([run.points[name] for name in run.ends])


def flat(program):
    """A program of one routine without calls and repeats that unfolds to the same."""
    check_program(program)
    return [flat_routine(program)]

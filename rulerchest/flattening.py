"""Programs of one routine without calls and repeats.

Every routine is made flat once, behind those ahead of it, with names of its
own; a call then is a copy of the flat block. A size is a pair: how many
statements the flat block has, and how many blocks deep it is.
"""

from rulerchest.errors import TooLong
from rulerchest.judging import SHEET_NAMES
from rulerchest.programs import MOST_DEPTH, question_with_names
from rulerchest.tools import with_names

MOST_STATEMENTS = 200


class FlatRoutine:
    """A routine made flat: its block, and the names that its params and results have there.

    The block is left empty where the size is too great for any program that calls it.
    """

    def __init__(self, size, block, params, results):
        self.size = size
        self.block = block
        self.params = params
        self.results = results


def flat_routine(program):
    """The last routine of the program, made flat; TooLong if that has too many statements or too deep blocks."""
    name, params, block, results = program[-1]
    taken = {used: True for used in SHEET_NAMES + params}
    for used in names_within(block):
        taken[used] = True
    flats = {}
    for routine in program[:-1]:
        flats[routine[0]] = made_flat(routine, flats, taken)
    if is_too_great(size_of(block, flats)):
        raise TooLong("more than 200 statements, or blocks more than 6 deep")
    return (name, params, flat_block(block, flats, {}), results)


def made_flat(routine, flats, taken):
    """A routine that others call, with fresh names, which become taken."""
    _, params, block, results = routine
    table = {}
    for name in list(params) + names_within(block):
        if name not in table:
            table[name] = fresh_name(taken)
    size = size_of(block, flats)
    rows = [] if is_too_great(size) else flat_block(block, flats, table)
    return FlatRoutine(size, rows, exchanged(params, table), exchanged(results, table))


def fresh_name(taken):
    """A name that is not taken, which becomes taken."""
    k = len(taken)
    while f"z{k}" in taken:
        k = k + 1
    taken[f"z{k}"] = True
    return f"z{k}"


def exchanged(names, table):
    """The names, those that are keys of the table exchanged."""
    return tuple([table[name] if name in table else name for name in names])


def names_within(block):
    """The names that the statements of a block set, and those of the blocks within it."""
    names = []
    for statement in block:
        match statement[0]:
            case "call":
                names.extend(statement[1])
            case "repeat":
                names.extend(names_within(statement[2]))
            case "if":
                names.extend(names_within(statement[2]) + names_within(statement[3]))
            case _:
                names.append(statement[1])
    return names


def is_too_great(size):
    """Whether a flat block is too great for a program."""
    return size[0] > MOST_STATEMENTS or size[1] > MOST_DEPTH


def size_of(block, flats):
    """The size of a block when it is made flat."""
    many, depth = 0, 1
    for statement in block:
        count, deep = size_of_statement(statement, flats)
        many = many + count
        depth = max(depth, deep)
    return many, depth


def size_of_statement(statement, flats):
    """How many statements it becomes, and how deep the block is that has these."""
    match statement[0]:
        case "call":
            many, depth = flats[statement[2]].size
            return len(statement[3]) + many + len(statement[1]), depth
        case "repeat":
            many, depth = size_of(statement[2], flats)
            return (statement[1] * many, depth) if statement[1] > 0 else (0, 1)
        case "if":
            first = size_of(statement[2], flats)
            second = size_of(statement[3], flats)
            return 1 + first[0] + second[0], 1 + max(first[1], second[1])
        case _:
            return 1, 1


def flat_block(block, flats, table):
    """A new block without calls and repeats, the names that are keys of the table exchanged."""
    rows = []
    for statement in block:
        rows.extend(flat_statement(statement, flats, table))
    return rows


def flat_statement(statement, flats, table):
    """The statements that a statement becomes."""
    match statement[0]:
        case "call":
            return flat_call(statement, flats, table)
        case "repeat":
            return flat_repeat(statement, flats, table)
        case "if":
            first = flat_block(statement[2], flats, table)
            second = flat_block(statement[3], flats, table)
            return [("if", question_with_names(statement[1], table), first, second)]
        case "is":
            return [("is",) + exchanged(statement[1:], table)]
        case _:
            return [("draw",) + exchanged(statement[1:2], table) + (with_names(statement[2], table),)]


def flat_repeat(statement, flats, table):
    """The statements of the block, as often as its count says."""
    _, count, block = statement
    rows = []
    # Repeats of nothing may stand within each other, and would take millions of rounds.
    if size_of(block, flats)[0] > 0:
        for _ in range(count):
            rows.extend(flat_block(block, flats, table))
    return rows


def flat_call(statement, flats, table):
    """The params being the args, the flat block of the routine, and the names being its results."""
    _, names, routine, args = statement
    called = flats[routine]
    firsts = [("is", param, arg) for param, arg in zip(called.params, exchanged(args, table))]
    lasts = [("is", name, result) for name, result in zip(exchanged(names, table), called.results)]
    return firsts + copied(called.block) + lasts


def copied(block):
    """A flat block whose lists are new at every depth."""
    rows = []
    for statement in block:
        if statement[0] == "if":
            _, question, first, second = statement
            rows.append(("if", question, copied(first), copied(second)))
        else:
            rows.append(statement)
    return rows

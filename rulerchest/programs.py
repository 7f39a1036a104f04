"""Judging any value: questions, blocks and programs.

While a block is judged, the names that are set are the keys of a dict, and
routines is a dict from the names of the routines ahead to how many params and
results they have. What judges a statement gives the names set behind it, or
None where it is no statement there.
"""

from rulerchest.judging import (
    SHEET_NAMES, are_different_names, is_fresh, is_list, is_name, is_tuple_of, is_whole,
)
from rulerchest.tools import deed_names, is_deed, with_names

QUESTION_NAME_COUNTS = {"left": 3, "line": 3, "same": 2, "shorter": 4}
MOST_DEPTH = 6
MOST_ROUNDS = 20


def is_question(value):
    """Whether any value is a question."""
    if not isinstance(value, tuple) or len(value) < 2 or not isinstance(value[0], str):
        return False
    if value[0] == "can":
        return len(value) == 2 and is_deed(value[1])
    if value[0] not in QUESTION_NAME_COUNTS:
        return False
    return len(value) == QUESTION_NAME_COUNTS[value[0]] + 1 and all([is_name(name) for name in value[1:]])


def question_names(question):
    """The names of a question in its order."""
    return deed_names(question[1]) if question[0] == "can" else question[1:]


def question_with_names(question, table):
    """The question with the names that are keys of the table exchanged."""
    if question[0] == "can":
        return ("can", with_names(question[1], table))
    return question[:1] + tuple([table[name] if name in table else name for name in question[1:]])


def names_of_sheet():
    """The names that are set everywhere."""
    return {name: True for name in SHEET_NAMES}


def are_set(names, known):
    """Whether all names are set."""
    return all([name in known for name in names])


def and_set(known, names):
    """The names that are set, with more of them."""
    answer = {name: True for name in known}
    for name in names:
        answer[name] = True
    return answer


def behind_draw(statement, known):
    """Judge ("draw", name, deed)."""
    if not is_tuple_of(statement, 3) or not is_fresh(statement[1]) or not is_deed(statement[2]):
        return None
    if not are_set(deed_names(statement[2]), known):
        return None
    return and_set(known, [statement[1]])


def behind_is(statement, known):
    """Judge ("is", name, other)."""
    if not is_tuple_of(statement, 3) or not is_fresh(statement[1]) or not is_name(statement[2]):
        return None
    if statement[2] not in known:
        return None
    return and_set(known, [statement[1]])


def behind_call(statement, known, routines):
    """Judge ("call", names, routine, args)."""
    if not is_tuple_of(statement, 4):
        return None
    _, names, routine, args = statement
    if not is_name(routine) or routine not in routines:
        return None
    params, results = routines[routine]
    if not is_tuple_of(names, results) or not are_different_names(names) or not are_fresh(names):
        return None
    if not is_tuple_of(args, params) or not all([is_name(name) and name in known for name in args]):
        return None
    return and_set(known, names)


def are_fresh(names):
    """Whether all values are names that are none of the sheet."""
    return all([is_fresh(name) for name in names])


def behind_repeat(statement, known, routines, depth):
    """Judge ("repeat", count, block)."""
    if not is_tuple_of(statement, 3) or not is_whole(statement[1]) or not 0 <= statement[1] <= MOST_ROUNDS:
        return None
    behind = behind_block(statement[2], known, routines, depth + 1)
    return known if behind is not None and statement[1] == 0 else behind


def behind_if(statement, known, routines, depth):
    """Judge ("if", question, first, second)."""
    if not is_tuple_of(statement, 4) or not is_question(statement[1]):
        return None
    if not are_set(question_names(statement[1]), known):
        return None
    first = behind_block(statement[2], known, routines, depth + 1)
    second = behind_block(statement[3], known, routines, depth + 1)
    if first is None or second is None:
        return None
    return {name: True for name in first if name in second}


def behind_block(block, known, routines, depth):
    """Judge a block of this depth."""
    if depth > MOST_DEPTH or not is_list(block):
        return None
    for statement in block:
        known = behind_statement(statement, known, routines, depth)
        if known is None:
            return None
    return known


def behind_statement(statement, known, routines, depth):
    """Judge any value as a statement."""
    if not isinstance(statement, tuple) or len(statement) == 0 or not isinstance(statement[0], str):
        return None
    match statement[0]:
        case "draw":
            return behind_draw(statement, known)
        case "is":
            return behind_is(statement, known)
        case "call":
            return behind_call(statement, known, routines)
        case "repeat":
            return behind_repeat(statement, known, routines, depth)
        case "if":
            return behind_if(statement, known, routines, depth)
        case _:
            return None


def is_routine(value, routines):
    """Whether any value is a routine behind those ahead of it."""
    if not is_tuple_of(value, 4) or not is_name(value[0]) or value[0] in routines:
        return False
    _, params, block, results = value
    if not isinstance(params, tuple) or not are_different_names(params) or not are_fresh(params):
        return False
    if not isinstance(results, tuple) or len(results) == 0 or not all([is_name(name) for name in results]):
        return False
    behind = behind_block(block, and_set(names_of_sheet(), params), routines, 1)
    return behind is not None and are_set(results, behind)


def are_routines(value):
    """Whether any value is a list of one or more routines."""
    if not is_list(value) or len(value) == 0:
        return False
    routines = {}
    for routine in value:
        if not is_routine(routine, routines):
            return False
        routines[routine[0]] = (len(routine[1]), len(routine[3]))
    return True

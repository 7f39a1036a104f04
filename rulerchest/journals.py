"""Journals of works: their deeds, and the names that were there behind each one."""

from rulerchest.errors import BadJournal, BadPlace, RulerError
from rulerchest.judging import is_list, is_tuple_of, is_whole
from rulerchest.works import Work, check_work, names_of_stand

LENGTHS = {"draw": 3, "rub": 2, "rename": 3, "outfit": 2, "carry": 2, "undo": 1}


def journal_of(work):
    """The journal of the deeds that stand."""
    check_work(work)
    items = []
    stand = work.stand
    while stand.before is not None:
        items.append((stand.done[-1], names_of_stand(stand)))
        stand = stand.before
    return items[::-1]


def is_deed_of_work(value):
    """Whether any value has the form of a deed of a journal, whatever stands behind its word."""
    if not isinstance(value, tuple) or len(value) == 0 or not isinstance(value[0], str):
        return False
    return value[0] in LENGTHS and len(value) == LENGTHS[value[0]]


def do_deed(work, deed):
    """Do a deed of a journal."""
    match deed[0]:
        case "draw":
            work.draw(deed[1], deed[2])
        case "rub":
            work.rub(deed[1])
        case "rename":
            work.rename(deed[1], deed[2])
        case "outfit":
            work.outfit(deed[1])
        case "carry":
            work.carry(deed[1])
        case _:
            work.undo()


def can_do(work, deed):
    """Whether the work does a deed, and does not refuse it."""
    try:
        do_deed(work, deed)
    except RulerError:
        return False
    return True


def does_item(work, item):
    """Whether any value is an item of a journal whose deed the work does, with the names that are there then."""
    if not is_tuple_of(item, 2) or not is_deed_of_work(item[0]) or not can_do(work, item[0]):
        return False
    return isinstance(item[1], tuple) and item[1] == names_of_stand(work.stand)


def first_undone(work, journal, stands):
    """The index of the first item that the work does not do, which did those ahead; None if it did all.

    stands gets how the work stands behind each item.
    """
    if not is_list(journal):
        return 0
    for at, item in enumerate(journal):
        if not does_item(work, item):
            return at
        stands.append(work.stand)
    return None


def check_done(work, journal, stands):
    """Raise BadJournal with the index of the first item that the work does not do."""
    wrong = first_undone(work, journal, stands)
    if wrong is not None:
        raise BadJournal(wrong)


def first_wrong(chest, journal):
    """The index of the first wrong item of any value as a journal, None if there is none."""
    return first_undone(Work(chest), journal, [])


def replayed(chest, journal):
    """The work behind the journal."""
    work = Work(chest)
    check_done(work, journal, [])
    return work


def shortened(chest, journal):
    """The journal of the work behind the journal."""
    return journal_of(replayed(chest, journal))


def crossed(chest, journal, at):
    """Whether two deeds, one behind the other, can be exchanged with the same names, points and chest behind them."""
    work = Work(chest)
    stands = [work.stand]
    check_done(work, journal, stands)
    if not is_whole(at) or not 0 <= at < len(journal) - 1:
        raise BadPlace("no index of the journal with a next one")
    work.stand = stands[at]
    if not can_do(work, journal[at + 1][0]) or not can_do(work, journal[at][0]):
        return False
    return stand_alike(work.stand, stands[at + 2])


def stand_alike(one, other):
    """Whether two works have the same names, points and chest."""
    points = one.places_by_name
    others = other.places_by_name
    if one.tools != other.tools or sorted(points) != sorted(others):
        return False
    return all([points[name] == others[name] for name in points])

"""Reckonings: rows of fractions, sums, differences, products, quotients, lengths of diagonals and roots."""

from rulerchest.errors import BadIndex, BadLine, BadRows, BadWord, Unworked
from rulerchest.judging import is_list, is_tuple_of, is_whole, lowest
from rulerchest.numbers import fraction, minus, over, plus, sign, times, trimmed
from rulerchest.rowtexts import row_of_line, row_text
from rulerchest.squareroots import root
from rulerchest.textlines import text_of
from rulerchest.trees import is_real

WORDS_WITH_TWO = ("plus", "minus", "times", "over", "hyp")


def is_index(value, many):
    """Whether any value is an index of a list of so many items."""
    return is_whole(value) and 0 <= value < many


def is_row(value, many):
    """Whether any value is a row behind so many rows."""
    if not isinstance(value, tuple) or len(value) == 0 or not isinstance(value[0], str):
        return False
    if value[0] == "fraction":
        return is_tuple_of(value, 3) and is_whole(value[1]) and is_whole(value[2]) and value[2] >= 1
    if value[0] == "root":
        return is_tuple_of(value, 2) and is_index(value[1], many)
    if value[0] not in WORDS_WITH_TWO:
        return False
    return is_tuple_of(value, 3) and is_index(value[1], many) and is_index(value[2], many)


def is_reckoning(value):
    """Whether any value is a reckoning."""
    if not is_list(value) or len(value) == 0:
        return False
    return all([is_row(row, at) for at, row in enumerate(value)])


def check_rows(value):
    """Raise BadRows unless any value is a reckoning."""
    if not is_reckoning(value):
        raise BadRows("no reckoning")


def kind_of(rows):
    """The word of the set that the words of the rows lead to."""
    check_rows(rows)
    words = [row[0] for row in rows]
    if "root" in words:
        return "all"
    return "middle" if "hyp" in words else "fractions"


def worked(rows):
    """The values of the rows."""
    check_rows(rows)
    values = []
    for at, row in enumerate(rows):
        value = value_of_row(row, values)
        if value is None:
            raise Unworked(at)
        # Rows that are not used would make towers grow from row to row.
        values.append(trimmed(value))
    return values


def value_of_row(row, values):
    """The value of a row behind rows with these values, None if it cannot be worked."""
    if row[0] == "fraction":
        n, d = lowest(row[1], row[2])
        return fraction(n, d)
    one = values[row[1]]
    if row[0] == "root":
        return None if sign(one) < 0 else root(one)
    other = values[row[2]]
    match row[0]:
        case "plus":
            return plus(one, other)
        case "minus":
            return minus(one, other)
        case "times":
            return times(one, other)
        case "over":
            return None if sign(other) == 0 else over(one, other)
        case _:
            return root(trimmed(plus(times(one, one), times(other, other))))


def bad_rows(rows):
    """The indexes of the rows whose values are not real in every reading."""
    return [at for at, value in enumerate(worked(rows)) if not is_real(value)]


def indexes_of(row):
    """The indexes that a row has."""
    return () if row[0] == "fraction" else row[1:]


def with_indexes(row, table):
    """The row with each index exchanged for the one that the table has for it."""
    return row if row[0] == "fraction" else row[:1] + tuple([table[at] for at in row[1:]])


def needed_rows(rows):
    """For each row whether the last one is it or hangs on it."""
    needed = [False] * (len(rows) - 1) + [True]
    # A row has only indexes of rows ahead, so that going back meets each row behind all that hang on it.
    for at in reversed(range(len(rows))):
        if needed[at]:
            for used in indexes_of(rows[at]):
                needed[used] = True
    return needed


def needless_rows(rows):
    """The indexes of the rows on which the last one does not hang."""
    check_rows(rows)
    return [at for at, is_needed in enumerate(needed_rows(rows)) if not is_needed]


def plain_rows(rows):
    """The needed rows, each one written once, fractions in lowest terms."""
    check_rows(rows)
    needed = needed_rows(rows)
    answer = []
    places = {}
    table = {}
    for at, row in enumerate(rows):
        if needed[at]:
            fresh = with_indexes(row, table)
            if fresh[0] == "fraction":
                fresh = fresh[:1] + lowest(fresh[1], fresh[2])
            if fresh not in places:
                places[fresh] = len(answer)
                answer.append(fresh)
            table[at] = places[fresh]
    return answer


def reckoning_text(rows):
    """A line for each row."""
    check_rows(rows)
    return text_of([row_text(row) for row in rows])


def reckoning_of(text):
    """The reckoning with this text."""
    if not isinstance(text, str):
        raise BadLine(None)
    rows = []
    for at, line in enumerate(text.split("\n")):
        row = row_of_line(line)
        if not is_row(row, at):
            raise BadLine(at)
        rows.append(row)
    return rows


def moved_up(rows, many):
    """The rows with all indexes moved up."""
    table = [at + many for at in range(len(rows))]
    return [with_indexes(row, table) for row in rows]


def combined(rows, others, word):
    """The rows, the others, and a row with the word for the results of both."""
    check_rows(rows)
    check_rows(others)
    if not isinstance(word, str) or word not in WORDS_WITH_TWO:
        raise BadWord("no word of a row with two indexes")
    many = len(rows)
    return list(rows) + moved_up(others, many) + [(word, many - 1, many + len(others) - 1)]


def filled(rows, others, at):
    """The rows with the others in the place of the row at an index."""
    check_rows(rows)
    check_rows(others)
    if not is_index(at, len(rows)):
        raise BadIndex("no index of the rows")
    more = len(others) - 1
    table = [old if old < at else old + more for old in range(len(rows))]
    return list(rows[:at]) + moved_up(others, at) + [with_indexes(row, table) for row in rows[at + 1:]]


def first_apart(rows, others):
    """The least index at which the values differ or only one of both has a row, None if there is none."""
    check_rows(rows)
    check_rows(others)
    values = worked(rows)
    wanted = worked(others)
    for at, (value, other) in enumerate(zip(values, wanted)):
        if value != other:
            return at
    return None if len(values) == len(wanted) else min(len(values), len(wanted))

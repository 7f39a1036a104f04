"""Reckonings drawn in a sketch, and numbers and points drawn from nothing but the sheet."""

from rulerchest.chests import WORDS, word_of_tools
from rulerchest.makings import rows_anyhow, rows_made
from rulerchest.numbers import fraction_of, joined, placed, trimmed
from rulerchest.sketchplaces import draw_place
from rulerchest.sketchroots import HYP_TOOLS, ROOT_TOOLS, best_of, put_diagonal, put_root
from rulerchest.sketchsums import add_numbers, divide, multiply, put_fraction, take_number

# More pairs than these no row needs; a fraction needs half a pair more for each binary digit.
MOST_OF_FRACTION = 40
MOST_OF_SUM = 8
MOST_OF_ROOT = 30


def draw_row(sketch, row, numbers, chest):
    """The number of a row, known in the sketch then; numbers are those of the rows ahead."""
    word = row[0]
    if word == "fraction":
        return put_fraction(sketch, row[1], row[2])
    one = numbers[row[1]]
    if word == "root":
        return put_root(sketch, one, best_of(ROOT_TOOLS, chest))
    other = numbers[row[2]]
    match word:
        case "plus":
            return add_numbers(sketch, one, other)
        case "minus":
            return take_number(sketch, one, other)
        case "times":
            return multiply(sketch, one, other)
        case "over":
            return divide(sketch, one, other)
        case _:
            return put_diagonal(sketch, one, other, best_of(HYP_TOOLS, chest))


def has_roots(chest):
    """Whether the tools of the chest find all roots."""
    return word_of_tools(chest) == WORDS[-1]


def weight_of(rows):
    """More pairs than drawing the rows needs."""
    weight = 0
    for row in rows:
        if row[0] == "fraction":
            weight = weight + MOST_OF_FRACTION + (row[1].bit_length() + row[2].bit_length()) // 2
        elif row[0] in ("hyp", "root"):
            weight = weight + MOST_OF_ROOT
        else:
            weight = weight + MOST_OF_SUM
    return weight


def plan_of(sketch, number):
    """The rows that are left to be drawn for a trimmed number."""
    if sketch.knows(number):
        return []
    found = fraction_of(number)
    if found is not None:
        return [("fraction",) + found]
    return rows_anyhow(number) if sketch.rooted else rows_made(number)


def put_number(sketch, number, rows, chest):
    """A trimmed number, drawn by its plan; the Number as the sketch knows it."""
    numbers = []
    for row in rows:
        numbers.append(draw_row(sketch, row, numbers, chest))
    return numbers[-1] if len(numbers) > 0 else number


def over_one_tower(point):
    """The trimmed coordinates of a point, as far as can be with the same roots."""
    x, y = [trimmed(number) for number in point]
    if len(x.tower.squares) == 0 or len(y.tower.squares) == 0:
        return x, y
    return x, trimmed(placed(y, joined(x.tower, y.tower)))


def put_point(sketch, point, chest):
    """The last step draws a point of the chest's set with its tools."""
    x, y = [put_number(sketch, number, plan_of(sketch, number), chest) for number in over_one_tower(point)]
    draw_place(sketch, x, y)

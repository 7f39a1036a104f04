"""How long calls take, on average, over drawn inputs: run by hand, PYTHONPATH=. python3 tests/measure.py [how many]."""

import sys
import time
from fractions import Fraction

from drawn_inputs import (
    GREAT_TOOLS, MIDDLE_TOOLS, ROOTED, SHALLOW, random_deed, random_drawing, random_marks, random_point, random_rows,
    small_fraction,
)
from helpers import TOWERS, chance_with, pair, random_number
from rulerchest.carrying import carried, drawing_of, is_carried, reaches
from rulerchest.chests import set_of
from rulerchest.deeds import deed_steps, hyp_steps, root_steps, worked_steps
from rulerchest.desk import Desk
from rulerchest.drawings import drawn, drawn_from
from rulerchest.edgesums import place_steps, product_steps, quotient_steps, sum_steps, x_steps
from rulerchest.edgework import parallel_steps, upright_steps
from rulerchest.errors import RulerError
from rulerchest.journals import crossed, first_wrong, journal_of, replayed, shortened
from rulerchest.makings import cleared, diagonal, made, made_anyhow, made_root
from rulerchest.markings import first_strange, is_marking, marking, started
from rulerchest.marks import (
    as_sum, base, enough, field_paper, first_outside, first_parting, in_field, is_field_paper, needless, size, value_of,
)
from rulerchest.numbers import Number, fraction, plus, times
from rulerchest.reckonings import worked
from rulerchest.tools import NAME_COUNTS, laid
from rulerchest.works import Work

WORD_OF_TOOL = {"compass": "circles", "square": "upright"}


class Watch:
    """The times that calls took, by what was measured."""

    def __init__(self):
        self.times = {}

    def run(self, kind, task):
        """What the task returns, or None if it raises an error of the package."""
        start = time.perf_counter()
        try:
            found = task()
        except RulerError:
            found, kind = None, kind + ", refused"
        self.times.setdefault(kind, []).append(time.perf_counter() - start)
        return found

    def show(self):
        """A line for everything that was measured, in milliseconds."""
        for kind, taken in self.times.items():
            print(f"{kind:50} {len(taken):5} times  average {1000 * sum(taken) / len(taken):8.3f}"
                  f"  longest {1000 * max(taken):8.3f}")


def measure_makings(watch, chance, many):
    for _ in range(many):
        for most in (1, 2):
            tower = chance.choice([tower for tower in TOWERS if len(tower.squares) == most])
            number = random_number(chance, tower, 6)
            for asked in (made, made_root, made_anyhow):
                watch.run(f"{asked.__name__}, {most} roots, worked", lambda: worked(asked(number)))
            values = [random_number(chance, tower, 3) for _ in range(chance.randint(1, 4))]
            watch.run(f"diagonal, {most} roots, worked", lambda: worked(diagonal(values)))
        rows = random_rows(chance, 7, 1, 2)
        watch.run("cleared, up to seven rows, worked", lambda: worked(cleared(rows)))


def measure_carried(watch, chance, many):
    for _ in range(many):
        group = chance.choice((GREAT_TOOLS, MIDDLE_TOOLS))
        one, other = chance.sample(group, 2)
        steps, _ = random_drawing(chance, ("meet", WORD_OF_TOOL.get(one, one)), 1)
        watch.run("carried beside, laid 3 times, asked", lambda: carry_all(steps, (other,)))
        one, other = chance.choice(MIDDLE_TOOLS), chance.choice(GREAT_TOOLS)
        steps, _ = random_drawing(chance, ("meet", one), 1)
        watch.run("carried to greater, laid 3 times, asked", lambda: carry_all(steps, (other,)))


def carry_all(steps, chest):
    value = carried(steps, chest)
    for _ in range(3):
        drawn(value)
    return is_carried(steps, chest, value)


def measure_drawing_of(watch, chance, many):
    for _ in range(many):
        place = random_point(chance)
        chest = (chance.choice(GREAT_TOOLS + MIDDLE_TOOLS),)
        watch.run("reaches", lambda: reaches(place, chest))
        watch.run("drawing_of, laid 3 times", lambda: draw_all(place, chest))
        words = ["meet"] + [WORD_OF_TOOL.get(chest[0], chest[0])] * chance.randint(1, 2)
        steps, points = random_drawing(chance, words, 2)
        point = points[steps[-1][0]]
        watch.run("drawing_of of a drawn point, laid 3 times", lambda: draw_all(point, chest))


def draw_all(place, chest):
    steps = drawing_of(place, chest)
    for _ in range(3):
        drawn(steps)
    return steps


def full_number(chance, tower):
    """A Number over the tower all of whose parts are fractions of one digit other than zero."""
    return Number(tower, tuple(pair(Fraction(chance.choice((-1, 1)) * chance.randint(1, 9), chance.randint(1, 9)))
                               for _ in range(2 ** len(tower.squares))))


def measure_full_numbers(watch, chance, many):
    for _ in range(many):
        for most in (1, 2):
            number = full_number(chance, chance.choice([tower for tower in TOWERS if len(tower.squares) == most]))
            square = plus(times(number, number), fraction(chance.randint(1, 5)))
            watch.run(f"made, {most} roots, all parts, worked", lambda: worked(made(number)))
            watch.run(f"made_root, {most} roots, all parts, worked", lambda: worked(made_root(square)))
            chest = (chance.choice(GREAT_TOOLS + MIDDLE_TOOLS),)
            place = (small_fraction(chance), number)
            watch.run(f"drawing_of, {most} roots, all parts, laid 3 times", lambda: draw_all(place, chest))


def measure_deeds(watch, chance, many):
    for _ in range(many):
        chest = (chance.choice(GREAT_TOOLS + MIDDLE_TOOLS),)
        great = set_of(chest) == "all"
        rows = random_rows(chance, chance.randint(2, 5), 1, 1 if great else 0)
        watch.run("worked_steps twice, laid twice", lambda: work_all(rows, chest))
        steps, points = random_drawing(chance, ("meet", chance.choice(tuple(NAME_COUNTS))), 1)
        deed = random_deed(chance, chance.choice(tuple(NAME_COUNTS)), list(points))
        watch.run("deed_steps, laid", lambda: drawn(steps + deed_steps(steps, deed, chest, "res")))
        steps = steps + x_steps(steps, chance.choice(list(points)), "x")
        watch.run("hyp_steps, laid", lambda: drawn(steps + hyp_steps(steps, "x", "uu", chest[0], "res")))
        if great:
            watch.run("root_steps, laid", lambda: drawn(steps + root_steps(steps, "x", chest[0], "res")))
        for asked in (sum_steps, product_steps, quotient_steps, place_steps):
            watch.run(asked.__name__, lambda: asked(steps, "x", "uu", "res"))
        p, a, b = [chance.choice(list(points)) for _ in range(3)]
        for asked in (parallel_steps, upright_steps):
            watch.run(asked.__name__, lambda: asked(steps, p, a, b, "res"))


def work_all(rows, chest):
    worked_steps(rows, chest)
    steps = worked_steps(rows, chest)
    drawn(steps)
    return drawn(steps)


def measure_marks(watch, chance, many):
    for _ in range(many):
        marks, others = random_marks(chance), random_marks(chance)
        number = random_number(chance, chance.choice(SHALLOW), 3)
        for asked in (base, size, needless, enough):
            watch.run(asked.__name__, lambda: asked(marks))
        for asked in (in_field, as_sum):
            watch.run(asked.__name__, lambda: asked(marks, number))
        paper = watch.run("field_paper", lambda: field_paper(marks, number))
        watch.run("is_field_paper", lambda: is_field_paper(marks, number, paper))
        watch.run("first_outside", lambda: first_outside(marks, others))
        watch.run("first_parting", lambda: first_parting(marks, marks))
        watch.run("BadMarks", lambda: base({"o": 1}))
        watch.run("NotNumber", lambda: in_field(marks, None))
        watch.run("BadProduct", lambda: value_of(marks, ("m", 0)))
        place = (number, small_fraction(chance, 4))
        watch.run("marking, asked, laid", lambda: mark_all(marks, place))
        sequel = random_sequel(chance, started(marks))
        watch.run("first_strange of six steps", lambda: first_strange(marks, sequel))


def mark_all(marks, place):
    value = marking(marks, place)
    drawn_from(started(marks), value[0])
    return is_marking(marks, place, value)


def random_sequel(chance, points):
    sequel = []
    while len(sequel) < 6:
        deed = random_deed(chance, chance.choice(("meet", "meet", "upright")), list(points))
        try:
            points[f"s{len(sequel)}"] = laid(deed, points)
        except RulerError:
            continue
        sequel.append((f"s{len(sequel)}", deed))
    return sequel


def measure_works(watch, chance, many):
    for _ in range(many):
        steps, points = random_drawing(chance, ("meet", "gauge", "meet", "gauge", "meet", "meet"), 2)
        work = Work(("gauge",))
        for name, deed in steps:
            watch.run("laid alone", lambda: laid(deed, points))
            watch.run("Work.draw", lambda: work.draw(name, deed))
            watch.run("Work.draw, taken", lambda: work.draw(name, deed))
        watch.run("Work.rub", lambda: work.rub(chance.choice("abcdef")))
        watch.run("Work.rename", lambda: work.rename("c", "z"))
        watch.run("Work.outfit", lambda: work.outfit(("gauge", "strip")))
        for kind, asked in (("len", lambda: len(work)), ("chest", lambda: work.chest), ("steps", lambda: work.steps),
                            ("log", lambda: work.log), ("point", lambda: work.point("a")), ("word", lambda: work.word("b"))):
            watch.run("Work." + kind, asked)
        watch.run("Work.copy", work.copy)
        watch.run("Work ==", lambda: work == work.copy())
        watch.run("Work block", lambda: work.tried(len))
        journal = journal_of(work)
        for asked in (first_wrong, replayed, shortened):
            watch.run(asked.__name__, lambda: asked(("gauge",), journal))
        watch.run("crossed", lambda: crossed(("gauge",), journal, 3))
        watch.run("Work.undo", work.undo)
        desk = Desk()
        desk.say("outfit gauge")
        for name, deed in steps:
            watch.run("say draw", lambda: desk.say(f"draw {name} " + " ".join(deed)))
        for line in ("names", "word b", "x b", "why b", "same a b", "side a b c"):
            watch.run("say, questions", lambda: desk.say(line))


def measure_drawn(watch, chance, many):
    steps, points = random_drawing(chance, ("meet",) * 8, 0, 10)
    while len(steps) < 60:
        deed = random_deed(chance, "meet", list(points)[:13])
        try:
            points[f"s{len(steps)}"] = laid(deed, points)
        except RulerError:
            continue
        steps.append((f"s{len(steps)}", deed))
    for _ in range(many):
        watch.run("drawn of 60 meets with fractions", lambda: drawn(steps))


def main():
    many = int(sys.argv[1]) if len(sys.argv) > 1 else 300
    watch = Watch()
    for number, measured in enumerate((measure_drawn, measure_makings, measure_carried, measure_drawing_of, measure_deeds,
                                       measure_marks, measure_works, measure_full_numbers)):
        measured(watch, chance_with(number), many)
    watch.show()


if __name__ == "__main__":
    main()

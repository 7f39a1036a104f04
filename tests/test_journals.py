"""Journals of works ([80], [81])."""

import unittest

from helpers import chance_with, odd_values
from rulerchest.chests import is_chest
from rulerchest.errors import BadChest, BadJournal, BadPlace, NotWork
from rulerchest.journals import crossed, first_wrong, journal_of, replayed, shortened
from rulerchest.works import Work
from test_works import A, G, begun, random_step

CHEST = ("gauge",)
LONG = [(("draw", "a", A), ("a",)), (("draw", "g", G), ("a", "g")), (("rename", "a", "b"), ("b", "g")), (("undo",), ("a", "g")),
        (("outfit", ("disc", "gauge")), ("a", "g")), (("draw", "d", ("disc", "o", "a", 2)), ("a", "d", "g")),
        (("rub", "g"), ("a", "d")), (("carry", ("disc",)), ("a", "d")), (("undo",), ("a", "d")), (("undo",), ("a", "d", "g"))]


def drawn_journal(chance, many):
    """A work and a journal of all that it did, undo among it."""
    work = Work(CHEST)
    items = []
    while len(items) < many:
        log = work.log
        if random_step(chance, work) is None:
            deed = ("undo",) if len(work) < len(log) else work.log[-1]
            items.append((deed, tuple(sorted(name for name, _ in work.steps))))
    return work, items


class JournalTests(unittest.TestCase):
    def test_journal_of_what_stands(self):
        self.assertEqual(journal_of(Work(CHEST)), [])
        work = begun()
        work.rename("a", "b")
        work.undo()
        work.rub("g")
        self.assertEqual(journal_of(work), LONG[:2] + [(("rub", "g"), ("a",))])
        journal_of(work).clear()
        self.assertEqual(len(journal_of(work)), 3)
        for value in odd_values() + [[work], CHEST]:
            with self.assertRaises(NotWork):
                journal_of(value)

    def test_a_journal_with_undo(self):
        self.assertIsNone(first_wrong(CHEST, LONG))
        self.assertIsNone(first_wrong(CHEST, tuple(LONG)))
        work = replayed(CHEST, LONG)
        self.assertEqual(work.log, [LONG[at][0] for at in (0, 1, 4, 5)])
        self.assertEqual(shortened(CHEST, LONG), [LONG[0], LONG[1], LONG[4], LONG[5]])
        self.assertEqual((work.first, work.chest), (CHEST, ("disc", "gauge")))
        self.assertIsNone(first_wrong(CHEST, []))
        self.assertTrue(replayed(CHEST, ()) == Work(CHEST))

    def check_wrong(self, journal, at):
        self.assertEqual(first_wrong(CHEST, journal), at)
        for asked in (lambda: replayed(CHEST, journal), lambda: shortened(CHEST, journal),
                      lambda: crossed(CHEST, journal, None)):
            with self.assertRaises(BadJournal) as caught:
                asked()
            self.assertEqual(caught.exception.at, at)

    def test_one_item_left_out_doubled_or_exchanged(self):
        self.check_wrong(LONG[1:], 0)
        self.check_wrong(LONG[:1] + LONG[:1] + LONG[1:], 1)
        self.check_wrong(LONG[:1] + LONG[2:], 1)
        self.check_wrong([LONG[1], LONG[0]] + LONG[2:], 0)
        self.check_wrong(LONG[:4] + LONG[5:], 4)
        self.check_wrong([(("undo",), ())], 0)
        self.check_wrong(LONG[:1] + [(("undo",), ()), (("undo",), ())], 2)

    def test_another_told(self):
        for at, (deed, told) in enumerate(LONG):
            for other in (told + ("z",), told[:-1], list(told), told[::-1] if len(told) > 1 else None, None, "a", (told,)):
                self.check_wrong(LONG[:at] + [(deed, other)] + LONG[at + 1:], at)

    def test_any_values_as_items(self):
        wrong = odd_values() + [(), (("undo",),), [("draw", "a", A), ("a",)], (["draw", "a", A], ("a",)),
                                (("draw", "a"), ("a",)), (("draw", "a", list(A)), ("a",)), (("lay", "a", A), ("a",)),
                                (("draw", "a", A, 1), ("a",)), ((None, "a", A), ("a",)), (("draw", ["a"], A), ("a",)),
                                (("outfit", ["gauge"]), ()), (("outfit", ("strip", "disc")), ()), (("carry", None), ()),
                                (("rub", ["a"]), ()), (("rename", "a", 1), ("a",)), (("draw", "o", A), ("o",)),
                                (("draw", "a", ("disc", "o", "u", 1)), ("a",)), ((), ("a",)), (("undo", 1), ())]
        for value in wrong:
            self.check_wrong([value], 0)
            self.check_wrong(LONG[:6] + [value], 6)

    def test_any_values_as_journals(self):
        for value in odd_values():
            if value not in ([], ()):
                self.check_wrong(value, 0)

    def test_wrong_chests_come_first(self):
        for value in odd_values() + [["gauge"], ("gauge", "disc")]:
            if not is_chest(value):
                for asked in (first_wrong, replayed, shortened, lambda chest, journal: crossed(chest, journal, None)):
                    with self.assertRaises(BadChest):
                        asked(value, None)
        self.assertEqual(first_wrong(chest=(), journal=LONG), 1)

    def test_drawn_journals(self):
        chance = chance_with(91)
        for _ in range(60):
            work, items = drawn_journal(chance, chance.randint(1, 8))
            before = list(items)
            self.assertIsNone(first_wrong(CHEST, items))
            self.assertTrue(replayed(CHEST, items) == work)
            self.assertEqual(shortened(CHEST, items), journal_of(work))
            self.assertEqual(items, before)
            at = chance.randrange(len(items))
            self.assertEqual(first_wrong(CHEST, items[:at] + [(items[at][0], ("zz",))] + items[at + 1:]), at)


class CrossedTests(unittest.TestCase):
    def of(self, *deeds):
        """A journal of these deeds, and whether the last two can be exchanged."""
        work = Work(CHEST)
        items = []
        for deed in deeds:
            {"draw": work.draw, "rub": work.rub, "rename": work.rename, "outfit": work.outfit, "carry": work.carry,
             "undo": work.undo}[deed[0]](*deed[1:])
            items.append((deed, tuple(sorted(name for name, _ in work.steps))))
        return crossed(CHEST, items, len(items) - 2)

    def test_draws(self):
        self.assertTrue(self.of(("draw", "a", A), ("draw", "b", A)))
        self.assertFalse(self.of(("draw", "a", A), ("draw", "g", G)))
        self.assertTrue(self.of(("draw", "a", A), ("draw", "g", G), ("draw", "b", ("meet", "o", "a", "u", "v"))))

    def test_other_deeds(self):
        first, disc = ("draw", "a", A), ("outfit", ("disc", "gauge"))
        self.assertTrue(self.of(first, disc))
        self.assertFalse(self.of(first, disc, ("draw", "d", ("disc", "o", "a", 2))))
        self.assertFalse(self.of(first, ("rub", "a")))
        self.assertFalse(self.of(first, ("rename", "a", "b")))
        self.assertFalse(self.of(first, ("rename", "a", "b"), ("draw", "a", A)))
        self.assertTrue(self.of(first, ("draw", "b", A), ("rename", "a", "c")))
        self.assertTrue(self.of(first, ("draw", "b", A), ("rub", "a")))
        self.assertFalse(self.of(first, ("draw", "g", G), ("carry", ("disc",))))
        self.assertTrue(self.of(first, disc, ("carry", ("disc", "gauge"))))
        self.assertFalse(self.of(first, disc, ("outfit", CHEST)))
        self.assertFalse(self.of(first, ("undo",)))
        self.assertTrue(self.of(first, ("draw", "b", A), ("draw", "c", A), ("undo",), ("undo",)))
        self.assertTrue(self.of(first, ("draw", "g", G), ("carry", ("disc",)), ("rename", "g", "h")))

    def test_undo_of_the_deed_ahead(self):
        self.assertFalse(self.of(("draw", "a", A), ("rename", "a", "b"), ("undo",)))
        self.assertFalse(self.of(("draw", "a", A), ("undo",), ("draw", "b", A)))

    def test_at_every_place(self):
        wanted = [False, False, False, False, False, True, True, False, True]
        for at, answer in enumerate(wanted):
            self.assertIs(crossed(CHEST, LONG, at), answer, at)

    def test_places(self):
        for value in odd_values() + [-1, len(LONG) - 1, len(LONG), True]:
            if value not in (0, 1, 7) or value is True or value is False:
                with self.assertRaises(BadPlace):
                    crossed(CHEST, LONG, value)
        for journal in ([], LONG[:1]):
            for at in (0, -1, 1):
                with self.assertRaises(BadPlace):
                    crossed(CHEST, journal, at)
        self.assertIs(crossed(chest=CHEST, journal=tuple(LONG), at=0), False)

    def test_two_draws_without_each_other(self):
        chance = chance_with(92)
        done = 0
        for _ in range(60):
            _, items = drawn_journal(chance, 5)
            for at in range(4):
                first, second = items[at][0], items[at + 1][0]
                if first[0] == second[0] == "draw" and first[1] not in second[2]:
                    self.assertTrue(crossed(CHEST, items, at))
                    done += 1
                else:
                    self.assertIn(crossed(CHEST, items, at), (True, False))
        self.assertGreater(done, 10)


if __name__ == "__main__":
    unittest.main()

"""The document's examples in full, with all that the calls show behind each step."""

import unittest

from tests.helper import (
    accrualat, accrue, behind, class_of, classat, counts, create, give, holding, income, lot, owed, pay, quote,
    sums, tick, told, whole,
)

TENTH = 100000000


class GivingOut(unittest.TestCase):
    units = [class_of(0), create(0, 0, 60), create(0, 1, 40)]
    risen = [*units, income(0, 10)]
    joined = [*risen, create(0, 2, 50)]
    given = [*joined, give(0, TENTH, 1)]

    def shown_behind(self, start):
        """classat, sums; of the holders 0 to 2 holding, lot, owed."""
        shows = [[holding(0, h), lot(0, h, 0), owed(h)] for h in range(3)]
        return behind(start, classat(0), sums(0), *shows[0], *shows[1], *shows[2])

    def test_the_whole_list(self):
        self.assertEqual(
            whole(*self.given, classat(0), sums(0), owed(0), owed(1), owed(2)),
            told([0, 0, 0, 100, 5, [15, 0], [150, 0, 0], [10, 5, 0, 15, 0, 0],
                  [6, 0, 0, 0, 6, 0], [4, 0, 0, 0, 4, 0], [5, 0, 0, 5, 0, 0]]))

    def test_behind_the_first_units(self):
        self.assertEqual(self.shown_behind(self.units), [
            [100, 0, 0], [0, 0, 0, 0, 0, 0],
            [60, 1, 0, 0], [60, 0, 0], [0] * 6,
            [40, 1, 0, 0], [40, 0, 0], [0] * 6,
            [0, 0, 0, 0], [-6], [0] * 6])

    def test_behind_the_income(self):
        self.assertEqual(self.shown_behind(self.risen), [
            [100, 10, TENTH], [10, 0, 0, 0, 0, 10],
            [60, 1, 6, 0], [60, TENTH, 0], [0] * 6,
            [40, 1, 4, 0], [40, TENTH, 0], [0] * 6,
            [0, 0, 0, 0], [-6], [0] * 6])

    def test_behind_the_units_bought(self):
        self.assertEqual(self.shown_behind(self.joined), [
            [150, 15, TENTH], [10, 5, 0, 0, 0, 15],
            [60, 1, 6, 0], [60, TENTH, 0], [0] * 6,
            [40, 1, 4, 0], [40, TENTH, 0], [0] * 6,
            [50, 1, 5, 0], [50, 0, TENTH], [0] * 6])

    def test_each_holders_part(self):
        self.assertEqual(
            behind(self.joined, quote(0, TENTH, 0), quote(0, TENTH, 1), quote(0, TENTH, 2)),
            [[6, 0, 0], [4, 0, 0], [5, 5, 0]])

    def test_behind_the_giving_out(self):
        self.assertEqual(self.shown_behind(self.given), [
            [150, 0, 0], [10, 5, 0, 15, 0, 0],
            [60, 1, 0, 0], [60, TENTH, 0], [6, 0, 0, 0, 6, 0],
            [40, 1, 0, 0], [40, TENTH, 0], [4, 0, 0, 0, 4, 0],
            [50, 1, 0, 0], [50, 0, 0], [5, 0, 0, 5, 0, 0]])

    def test_nothing_is_left(self):
        self.assertEqual(
            behind(self.given, give(0, 1, 1), pay(0), pay(1), pay(2), owed(2)),
            [[-5], [6], [4], [5], [0, 5, 0, 5, 0, 0]])


class Accruing(unittest.TestCase):
    def test_the_whole_list(self):
        shows = [accrualat(0), classat(0), sums(0), holding(0, 0), lot(0, 0, 0), counts()]
        calls = [class_of(0), create(0, 0, 10), accrue(0, 10, 3), *shows]
        due = [0, 0, 0, [0, 10, 3, 0, 0, 0], [10, 0, 0], [0] * 6, [10, 1, 0, 0], [10, 0, 0], [0, 1, 0]]
        for day, passed, coins in ((1, 1, 3), (2, 2, 6), (3, 3, 10), (4, 3, 10)):
            calls += [tick(1), *shows]
            due += [
                day, [0, 10, 3, passed, coins, 0], [10, coins, coins * TENTH], [coins, 0, 0, 0, 0, coins],
                [10, 1, coins, 0], [10, coins * TENTH, 0], [day, 1, 0]]
        self.assertEqual(whole(*calls), told(due))


if __name__ == "__main__":
    unittest.main()

"""income, accrue, stop."""

import unittest

from tests.helper import (
    BILLION, FAR, MILLION, NO_CLASS, NO_ROOM, NOT_THERE, OUT_OF_RANGE,
    NO_SUCH_CLASSES, accrualat, accrue, behind, class_of, classat, counts, create, holding, income, last, lot, redeem,
    stop, sums, told, whole,
)

# A pot of a thousand million coins, on a thousand units.
FULL = [class_of(0), create(0, 0, 1), income(0, MILLION), create(0, 1, 999)]
FIFTY = [class_of(0), class_of(1), *[accrue(place % 2, 10, 3) for place in range(50)]]


class Income(unittest.TestCase):
    def test_answers_the_units_in_issue(self):
        self.assertEqual(
            whole(class_of(0), create(0, 0, 60), create(0, 1, 40), create(0, 1, 7), income(0, 10), redeem(0, 0, 3),
                  income(0, 1)),
            told([0, 0, 0, 0, 107, 0, 104]))

    def test_raises_what_is_open(self):
        self.assertEqual(
            whole(class_of(0), create(0, 0, 4), income(0, 4), create(0, 1, 1), income(0, 10), create(0, 1, 1)),
            told([0, 0, 4, 1, 5, 3]))
        self.assertEqual(
            whole(class_of(0), create(0, 0, 3), income(0, 10), classat(0), sums(0), holding(0, 0), lot(0, 0, 0)),
            told([0, 0, 3, [3, 10, 3333333333], [10, 0, 0, 0, 0, 10], [3, 1, 9, 0], [3, 3333333333, 0]]))

    def test_what_rounding_leaves_is_not_lost(self):
        # Three times a coin on 3 units makes a whole coin a unit, not three times 333333333 parts.
        self.assertEqual(
            whole(class_of(0), create(0, 0, 3), income(0, 1), income(0, 1), income(0, 1), classat(0)),
            told([0, 0, 3, 3, 3, [3, 3, BILLION]]))

    def test_is_for_one_class(self):
        self.assertEqual(
            whole(class_of(0), class_of(1), create(0, 0, 4), create(1, 0, 5), income(1, 10), create(0, 0, 1),
                  create(1, 0, 1)),
            told([0, 0, 0, 0, 5, 0, 2]))

    def test_without_units_it_is_unclaimed_and_raises_nothing(self):
        calls = [class_of(0), income(0, 10), income(0, MILLION), create(0, 0, 4)]
        self.assertEqual(
            whole(*calls, create(0, 1, 1), income(0, 5), redeem(0, 0, 4)),
            told([0, 0, 0, 0, 0, 5, 4]))
        self.assertEqual(
            behind(calls, counts(), sums(0), classat(0), lot(0, 0, 0)),
            [[0, 0, MILLION + 10], [0] * 6, [4, 0, 0], [4, 0, 0]])

    def test_with_units_nothing_is_unclaimed(self):
        self.assertEqual(behind([class_of(0), create(0, 0, 4), income(0, 10)], counts()), [[0, 0, 0]])

    def test_behind_the_last_units_it_is_unclaimed(self):
        calls = [class_of(0), create(0, 0, 3), income(0, 7), redeem(0, 0, 3), income(0, 9)]
        self.assertEqual(whole(*calls, create(0, 1, 1), redeem(0, 1, 1)), told([0, 0, 3, 7, 0, 0, 0]))
        self.assertEqual(behind(calls, counts(), sums(0)), [[0, 0, 9], [7, 0, 7, 0, 0, 0]])

    def test_unclaimed_is_of_the_house(self):
        calls = [class_of(0), class_of(3), income(0, 4), income(3, 5)]
        self.assertEqual(behind(calls, counts()), [[0, 0, 9]])

    def test_edges(self):
        start = [class_of(0), create(0, 0, 1)]
        self.assertEqual(whole(*start, income(0, 1), income(0, MILLION), redeem(0, 0, 1)),
                         told([0, 0, 1, 1, MILLION + 1]))

    def test_no_class(self):
        for c in NO_SUCH_CLASSES:
            self.assertEqual(last(class_of(1), income(c, 1)), NO_CLASS, c)

    def test_out_of_range(self):
        for coins in (0, -1, MILLION + 1, -FAR, FAR):
            self.assertEqual(last(class_of(1), create(1, 0, 1), income(1, coins)), OUT_OF_RANGE, coins)
            self.assertEqual(last(class_of(1), income(1, coins)), OUT_OF_RANGE, coins)

    def test_the_fullest_pot(self):
        self.assertEqual(
            whole(*FULL, income(0, 1), redeem(0, 0, 1), income(0, MILLION), income(0, 1)),
            told([0, 0, 1, 999 * MILLION, -3, MILLION, 999, -3]))
        self.assertEqual(
            whole(class_of(0), create(0, 0, 1), income(0, MILLION), create(0, 1, 998), income(0, MILLION),
                  income(0, 1)),
            told([0, 0, 1, 998 * MILLION, 999, -3]))

    def test_a_full_pot_is_of_one_class(self):
        self.assertEqual(last(*FULL, class_of(1), income(1, 1)), 0)

    def test_the_first_refusal_told_counts(self):
        self.assertEqual(last(*FULL, income(1, 0)), NO_CLASS)
        self.assertEqual(last(*FULL, income(4, 1)), NO_CLASS)
        self.assertEqual(last(*FULL, income(0, MILLION + 1)), OUT_OF_RANGE)
        self.assertEqual(last(*FULL, income(0, MILLION)), NO_ROOM)


class Accrue(unittest.TestCase):
    def test_answers_the_place(self):
        self.assertEqual(
            whole(class_of(0), class_of(3), accrue(0, 10, 3), accrue(3, 1, 1), accrue(0, MILLION, 1000)),
            told([0, 0, 0, 1, 2]))

    def test_keeps_what_it_is_of(self):
        self.assertEqual(
            whole(class_of(2), accrue(2, 10, 3), accrualat(0), counts()), told([0, 0, [2, 10, 3, 0, 0, 0], [0, 1, 0]]))

    def test_is_no_income_yet(self):
        self.assertEqual(
            whole(class_of(0), create(0, 0, 5), accrue(0, 10, 1), create(0, 1, 1), redeem(0, 0, 5), redeem(0, 1, 1)),
            told([0, 0, 0, 0, 0, 0]))

    def test_no_class(self):
        for c in NO_SUCH_CLASSES:
            self.assertEqual(last(class_of(1), accrue(c, 1, 1)), NO_CLASS, c)

    def test_out_of_range(self):
        for coins in (0, -1, MILLION + 1, -FAR, FAR):
            self.assertEqual(last(class_of(1), accrue(1, coins, 1)), OUT_OF_RANGE, coins)
        for days in (0, -1, 1001, -FAR, FAR):
            self.assertEqual(last(class_of(1), accrue(1, 1, days)), OUT_OF_RANGE, days)

    def test_a_refused_one_takes_no_place(self):
        self.assertEqual(
            whole(class_of(0), accrue(0, 1, 0), accrue(1, 1, 1), accrue(0, 1, 1)), told([0, -1, -2, 0]))

    def test_the_most_accruals(self):
        self.assertEqual(whole(*FIFTY), told([0, 0, *range(50)]))
        self.assertEqual(last(*FIFTY, accrue(0, 10, 3)), NO_ROOM)
        self.assertEqual(last(*FIFTY, accrue(1, 10, 3)), NO_ROOM)

    def test_a_stopped_one_keeps_its_place(self):
        self.assertEqual(last(*FIFTY, stop(49), accrue(0, 10, 3)), NO_ROOM)
        self.assertEqual(last(class_of(0), accrue(0, 1, 1), stop(0), accrue(0, 1, 1)), 1)

    def test_the_first_refusal_told_counts(self):
        self.assertEqual(last(*FIFTY, accrue(2, 0, 0)), NO_CLASS)
        self.assertEqual(last(*FIFTY, accrue(2, 1, 1)), NO_CLASS)
        self.assertEqual(last(*FIFTY, accrue(0, 0, 3)), OUT_OF_RANGE)
        self.assertEqual(last(*FIFTY, accrue(0, 10, 1001)), OUT_OF_RANGE)


class Stop(unittest.TestCase):
    def test_answers_the_coins_told(self):
        self.assertEqual(
            whole(class_of(0), accrue(0, 10, 3), accrue(0, 20, 1), stop(0), stop(1), stop(1)),
            told([0, 0, 1, 0, 0, 0]))

    def test_the_one_is_stopped(self):
        start = [class_of(0), accrue(0, 10, 3), accrue(0, 20, 1), accrue(0, 30, 1), stop(1)]
        shows = [accrualat(place) for place in range(3)]
        due = [[0, 10, 3, 0, 0, 0], [0, 20, 1, 0, 0, 1], [0, 30, 1, 0, 0, 0]]
        self.assertEqual(behind(start, *shows), due)
        self.assertEqual(behind([*start, stop(1)], *shows), due)

    def test_none_such(self):
        for place in (0, 1, -1, -FAR, FAR):
            self.assertEqual(whole(stop(place)), [1, NOT_THERE], place)
        for place in (2, 50, -1, -2, -FAR, FAR):
            self.assertEqual(last(class_of(0), accrue(0, 1, 1), accrue(0, 1, 1), stop(place)), NOT_THERE, place)
        self.assertEqual(last(*FIFTY, stop(49)), 0)
        self.assertEqual(last(*FIFTY, stop(50)), NOT_THERE)


if __name__ == "__main__":
    unittest.main()

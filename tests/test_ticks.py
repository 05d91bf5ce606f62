"""tick: days that go by, and the income that accrues."""

import unittest

from tests.helper import (
    BILLION, FAR, MILLION, NO_ROOM, OUT_OF_RANGE,
    accrualat, accrue, behind, class_of, classat, counts, create, give, income, last, owed, redeem, seen, shown,
    stop, sums, tick, told, whole,
)

# Class 0: 10000 coins below a full pot, on a thousand units. Class 1: much room.
NEARLY_FULL = [
    class_of(0), class_of(1), create(0, 0, 1), income(0, 999990), create(0, 1, 999), create(1, 0, 10)]
NEARLY = 999990000


class Days(unittest.TestCase):
    def test_answers_the_day(self):
        self.assertEqual(
            whole(tick(1), tick(1), tick(3), tick(1000), tick(999), counts()),
            told([1, 2, 5, 1005, 2004, [2004, 0, 0]]))

    def test_out_of_range(self):
        for n in (0, -1, 1001, -FAR, FAR):
            self.assertEqual(whole(tick(2), tick(n), tick(1)), told([2, OUT_OF_RANGE, 3]), n)

    def test_without_accruals_nothing_but_the_day_changes(self):
        start = [class_of(0), create(0, 0, 3), income(0, 10)]
        self.assertEqual(seen(*start, tick(5))[0], [5, 0, 0])
        self.assertEqual(seen(*start, tick(5))[1:], seen(*start)[1:])


class Accruals(unittest.TestCase):
    def test_of_several_classes_at_once(self):
        start = [
            class_of(0), class_of(3), create(0, 0, 10), create(3, 0, 4), accrue(0, 10, 3), accrue(3, 8, 4),
            accrue(0, 5, 2)]
        shows = [classat(0), classat(3), sums(0), sums(3)]
        self.assertEqual(
            whole(*start, tick(1), *shows, tick(1), *shows, tick(2), *shows),
            told([0, 0, 0, 0, 0, 1, 2,
                  1, [10, 5, 500000000], [4, 2, 500000000], [5, 0, 0, 0, 0, 5], [2, 0, 0, 0, 0, 2],
                  2, [10, 11, 1100000000], [4, 4, BILLION], [11, 0, 0, 0, 0, 11], [4, 0, 0, 0, 0, 4],
                  4, [10, 15, 1500000000], [4, 8, 2 * BILLION], [15, 0, 0, 0, 0, 15], [8, 0, 0, 0, 0, 8]]))

    def test_of_one_class_together(self):
        # 1, 2 and 4 coins on 3 units: 7 coins, not 333333333 and 666666666 and 1333333333 parts.
        start = [class_of(0), create(0, 0, 3), accrue(0, 1, 1), accrue(0, 2, 1), accrue(0, 4, 1)]
        self.assertEqual(behind(start, tick(1), classat(0), sums(0)), [[1], [3, 7, 2333333333], [7, 0, 0, 0, 0, 7]])

    def test_more_days_than_go_by_just_as_many_and_fewer(self):
        start = [class_of(0), create(0, 0, 1), accrue(0, 10, 6), accrue(0, 20, 5), accrue(0, 30, 4)]
        shows = [accrualat(0), accrualat(1), accrualat(2), classat(0)]
        self.assertEqual(
            behind(start, tick(5), *shows, tick(5), *shows),
            [[5], [0, 10, 6, 5, 8, 0], [0, 20, 5, 5, 20, 0], [0, 30, 4, 4, 30, 0], [1, 58, 58 * BILLION],
             [10], [0, 10, 6, 6, 10, 0], [0, 20, 5, 5, 20, 0], [0, 30, 4, 4, 30, 0], [1, 60, 60 * BILLION]])

    def test_many_days_are_as_many_single_ones(self):
        start = [class_of(0), create(0, 0, 7), accrue(0, 999999, 13), accrue(0, 5, 9)]
        for n in (1, 2, 8, 9, 12, 13, 14, 20):
            self.assertEqual(seen(*start, tick(n)), seen(*start, *[tick(1)] * n), n)

    def test_less_than_a_coin_a_day(self):
        start = [class_of(0), create(0, 0, 1), accrue(0, 3, 10)]
        calls, due = [], []
        for day, coins in enumerate((0, 0, 0, 1, 1, 1, 2, 2, 2, 3, 3), start=1):
            calls += [tick(1), accrualat(0), classat(0)]
            due += [[day], [0, 3, 10, min(day, 10), coins, 0], [1, coins, coins * BILLION]]
        self.assertEqual(behind(start, *calls), due)

    def test_days_are_counted_from_where_it_began(self):
        start = [class_of(0), create(0, 0, 1), tick(7), accrue(0, 10, 3), tick(1), accrue(0, 10, 3), tick(1)]
        self.assertEqual(
            behind(start, accrualat(0), accrualat(1), counts(), classat(0)),
            [[0, 10, 3, 2, 6, 0], [0, 10, 3, 1, 3, 0], [9, 2, 0], [1, 9, 9 * BILLION]])

    def test_the_largest_one(self):
        start = [class_of(0), create(0, 0, 1), accrue(0, MILLION, 1000)]
        self.assertEqual(
            behind(start, tick(1), accrualat(0), tick(998), accrualat(0), tick(1), accrualat(0), tick(1000),
                   accrualat(0)),
            [[1], [0, MILLION, 1000, 1, 1000, 0], [999], [0, MILLION, 1000, 999, 999000, 0],
             [1000], [0, MILLION, 1000, 1000, MILLION, 0], [2000], [0, MILLION, 1000, 1000, MILLION, 0]])
        self.assertEqual(shown(*start, tick(1000), classat(0)), [1, MILLION, MILLION * BILLION])

    def test_fifty_of_them(self):
        start = [class_of(0), class_of(1), create(0, 0, 5), create(1, 0, 5)]
        accruals = [accrue(place % 2, MILLION, 2) for place in range(50)]
        self.assertEqual(
            behind([*start, *accruals], tick(1), classat(0), classat(1), counts()),
            [[1], [5, 12500000, 2500000 * BILLION], [5, 12500000, 2500000 * BILLION], [1, 50, 0]])


class Stopped(unittest.TestCase):
    start = [class_of(0), create(0, 0, 1), accrue(0, 10, 3), accrue(0, 300, 3)]

    def test_before(self):
        self.assertEqual(
            whole(*self.start, stop(0), tick(1), accrualat(0), tick(5), accrualat(0), accrualat(1), classat(0)),
            told([0, 0, 0, 1, 0, 1, [0, 10, 3, 0, 0, 1], 6, [0, 10, 3, 0, 0, 1], [0, 300, 3, 3, 300, 0],
                  [1, 300, 300 * BILLION]]))

    def test_in_the_midst(self):
        self.assertEqual(
            whole(*self.start, tick(2), stop(0), tick(1), accrualat(0), accrualat(1), stop(0), classat(0)),
            told([0, 0, 0, 1, 2, 6, 3, [0, 10, 3, 2, 6, 1], [0, 300, 3, 3, 300, 0], 6, [1, 306, 306 * BILLION]]))

    def test_behind_its_last_day(self):
        self.assertEqual(
            whole(*self.start, tick(4), stop(0), tick(1), accrualat(0), accrualat(1), classat(0)),
            told([0, 0, 0, 1, 4, 10, 5, [0, 10, 3, 3, 10, 1], [0, 300, 3, 3, 300, 0], [1, 310, 310 * BILLION]]))

    def test_all_of_them(self):
        start = [*self.start, tick(1), stop(0), stop(1)]
        self.assertEqual(seen(*start, tick(9))[0], [10, 2, 0])
        self.assertEqual(seen(*start, tick(9))[1:], seen(*start)[1:])


class Unclaimed(unittest.TestCase):
    def test_a_class_without_units(self):
        start = [class_of(0), class_of(1), create(1, 0, 5), accrue(0, 10, 3), accrue(1, 10, 1)]
        shows = [counts(), classat(0), sums(0), classat(1)]
        self.assertEqual(
            whole(*start, tick(1), *shows, tick(1), *shows),
            told([0, 0, 0, 0, 1,
                  1, [1, 2, 3], [0] * 3, [0] * 6, [5, 10, 2 * BILLION],
                  2, [2, 2, 6], [0] * 3, [0] * 6, [5, 10, 2 * BILLION]]))

    def test_units_that_come_later_have_none_of_it(self):
        start = [class_of(0), accrue(0, 10, 3), tick(2)]
        self.assertEqual(
            behind(start, create(0, 0, 4), classat(0), tick(1), classat(0), counts()),
            [[0], [4, 0, 0], [3], [4, 4, BILLION], [3, 1, 6]])

    def test_behind_the_last_units(self):
        start = [class_of(0), create(0, 0, 4), accrue(0, 10, 3), tick(1), redeem(0, 0, 4)]
        self.assertEqual(
            behind(start, tick(1), counts(), classat(0), sums(0)),
            [[2], [2, 1, 3], [0] * 3, [3, 0, 3, 0, 0, 0]])

    def test_is_added_to_what_came_by_income(self):
        start = [class_of(0), class_of(1), income(0, 7), accrue(0, 10, 1), accrue(1, 20, 1), tick(1)]
        self.assertEqual(shown(*start, counts()), [1, 2, 37])


class FullestPot(unittest.TestCase):
    def test_just_full(self):
        self.assertEqual(
            behind([*NEARLY_FULL, accrue(0, 10000, 1), accrue(1, 10, 1)], tick(1), classat(0), classat(1)),
            [[1], [1000, BILLION, MILLION * BILLION], [10, 10, BILLION]])

    def test_one_coin_more_refuses_the_days_of_all(self):
        for own in (accrue(1, 10, 1), accrue(1, 10, 5)):
            start = [*NEARLY_FULL, own, accrue(0, 10001, 1)]
            self.assertEqual(
                behind(start, tick(1), counts(), classat(0), classat(1), accrualat(0), accrualat(1)),
                [[NO_ROOM], [0, 2, 0], [1000, NEARLY, 999990 * BILLION], [10, 0, 0],
                 [1, 10, own[3], 0, 0, 0], [0, 10001, 1, 0, 0, 0]])
            self.assertEqual(seen(*start, tick(1)), seen(*start))

    def test_where_the_class_behind_is_full(self):
        # Class 0 has room and comes first: it must not have moved.
        start = [
            class_of(3), class_of(0), create(3, 0, 1), income(3, 999990), create(3, 1, 999), create(0, 0, 10),
            accrue(0, 10, 1), accrue(3, 10001, 1)]
        self.assertEqual(last(*start, tick(1)), NO_ROOM)
        self.assertEqual(seen(*start, tick(1)), seen(*start))
        self.assertEqual(behind([*start, stop(1)], tick(1), classat(0)), [[1], [10, 10, BILLION]])

    def test_where_another_class_is_without_units(self):
        start = [*NEARLY_FULL, class_of(2), accrue(2, 10, 1), accrue(0, 10001, 1)]
        self.assertEqual(behind(start, tick(1), counts()), [[NO_ROOM], [0, 2, 0]])

    def test_of_two_together(self):
        self.assertEqual(last(*NEARLY_FULL, accrue(0, 6000, 1), accrue(0, 4000, 1), tick(1)), 1)
        self.assertEqual(last(*NEARLY_FULL, accrue(0, 6000, 1), accrue(0, 4001, 1), tick(1)), NO_ROOM)
        self.assertEqual(last(*NEARLY_FULL, accrue(0, 6000, 1), accrue(1, 4001, 1), tick(1)), 1)

    def test_by_the_days_that_go_by(self):
        start = [*NEARLY_FULL, accrue(0, 20000, 4)]
        self.assertEqual(
            behind(start, tick(3), tick(1000), tick(2), tick(1), accrualat(0), counts()),
            [[NO_ROOM], [NO_ROOM], [2], [NO_ROOM], [0, 20000, 4, 2, 10000, 0], [2, 1, 0]])

    def test_a_full_pot_without_accruals(self):
        start = [*NEARLY_FULL, income(0, 10000), accrue(0, 3, 10), accrue(1, 10, 1)]
        self.assertEqual(
            behind(start, tick(3), tick(1), stop(0), tick(1), classat(0), classat(1)),
            [[3], [NO_ROOM], [0], [4], [1000, BILLION, MILLION * BILLION], [10, 10, BILLION]])

    def test_room_made_by_giving_out(self):
        start = [*NEARLY_FULL, accrue(0, 10001, 1), give(0, 1000000, 1)]
        self.assertEqual(behind(start, tick(1), owed(1)), [[NO_ROOM], [0] * 6])
        start = [*NEARLY_FULL, accrue(0, 10001, 1), give(0, BILLION, 1)]
        self.assertEqual(
            behind(start, tick(1), sums(0)), [[1], [1009991, 998990010, 0, 1000, 0, 999999001]])

    def test_the_first_refusal_told_counts(self):
        self.assertEqual(last(*NEARLY_FULL, accrue(0, 10001, 1), tick(1001)), OUT_OF_RANGE)
        self.assertEqual(last(*NEARLY_FULL, accrue(0, 10001, 1), tick(0)), OUT_OF_RANGE)


if __name__ == "__main__":
    unittest.main()

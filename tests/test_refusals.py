"""A refusal is its number alone and changes nothing; of several due the first one told counts."""

import unittest

from tests.helper import (
    BILLION, FAR, MILLION, accrualat, accrue, class_of, classat, create, give, holder, holding, income, joined, lot,
    mandate, owed, pay, quote, rate, redeem, seen, stop, sums, tick, told, transfer, whole,
)

# Class 0 has a full pot, class 1 all its units, class 2 a holder with all their lots and income to put in again.
# There are 50 accruals; the first one runs over class 0's pot on its first day.
START = [
    rate(1, 5), holder(3, 1), class_of(0), class_of(1), class_of(2), mandate(0, 3, 1),
    create(0, 0, 1), income(0, MILLION), create(0, 1, 999), create(1, 3, BILLION), income(1, 7),
    *[create(2, 4, 2) for time in range(50)], create(2, 5, 3), income(2, 309), mandate(2, 4, 1),
    give(2, BILLION, 1000), pay(5), accrue(0, 10, 3), *[accrue(2, 10, 3) for place in range(49)], stop(7),
]

REFUSED = [
    (rate(4, 1), -1), (rate(1, MILLION + 1), -1), (holder(20, 1), -1), (holder(3, -1), -1),
    (class_of(4), -1), (class_of(0), -4),
    (mandate(3, 3, 0), -2), (mandate(0, 20, 0), -1), (mandate(0, 3, 2), -1),
    (create(3, 0, 1), -2), (create(0, 20, 1), -1), (create(0, 0, 0), -1),
    (create(0, 0, 1), -3), (create(1, 0, 1), -3), (create(2, 4, 1), -3),
    (redeem(3, 0, 1), -2), (redeem(0, -1, 1), -1), (redeem(0, 0, 0), -1), (redeem(0, 0, 2), -5),
    (transfer(3, 0, 1, 1), -2), (transfer(0, 20, 1, 1), -1), (transfer(0, 1, 20, 1), -1),
    (transfer(0, 1, 1, 1), -1), (transfer(0, 1, 0, 0), -1), (transfer(0, 0, 1, 2), -5),
    (transfer(2, 5, 4, 1), -3),
    (income(3, 1), -2), (income(0, 0), -1), (income(0, 1), -3),
    (accrue(3, 1, 1), -2), (accrue(0, 0, 1), -1), (accrue(0, 1, 0), -1), (accrue(0, 1, 1), -3),
    (stop(50), -6), (stop(-1), -6),
    (tick(0), -1), (tick(1001), -1), (tick(1), -3), (tick(1000), -3),
    (give(3, 1, 1), -2), (give(2, 0, 1), -1), (give(2, 1, 0), -1), (give(2, 1, MILLION + 1), -1),
    (give(2, 2 * BILLION + 1, 1), -5), (give(2, FAR, 1), -5), (give(2, BILLION, 1), -3),
    (pay(20), -1), (pay(-1), -1),
    (classat(3), -2), (classat(4), -2), (sums(3), -2), (sums(-1), -2),
    (holding(3, 0), -2), (holding(0, 20), -1),
    (lot(3, 0, 0), -2), (lot(0, 20, 0), -1), (lot(2, 4, 50), -6), (lot(2, 4, -1), -6), (lot(2, 0, 0), -6),
    (owed(20), -1), (owed(-1), -1), (accrualat(50), -6), (accrualat(-1), -6),
    (quote(3, 0, 0), -2), (quote(2, -1, 4), -1), (quote(2, 2 * BILLION + 1, 4), -1), (quote(2, 0, 20), -1),
]

# Where several are due, in the order in which the calls tell them.
SEVERAL = [
    (mandate(3, 20, 2), -2), (create(3, 20, 0), -2), (create(1, 20, BILLION), -1), (create(2, 4, BILLION + 1), -1),
    (redeem(3, 20, 0), -2), (redeem(0, 20, BILLION), -1), (redeem(0, 0, BILLION + 1), -1),
    (transfer(3, 20, 20, 0), -2), (transfer(2, 4, 4, 101), -1), (transfer(2, 5, 4, 4), -5),
    (income(3, 0), -2), (income(0, MILLION + 1), -1), (accrue(3, 0, 0), -2), (accrue(0, 0, 1), -1),
    (tick(1001), -1), (give(3, 0, 0), -2), (give(3, FAR, 1), -2), (give(2, FAR, 0), -1), (give(2, BILLION, 0), -1),
    (give(2, 2 * BILLION + 1, 1), -5), (holding(3, 20), -2), (lot(3, 20, 50), -2), (lot(2, 20, 50), -1),
    (quote(3, -1, 20), -2),
]


class Refusals(unittest.TestCase):
    def test_its_number_alone(self):
        ahead = whole(*START)
        for call, number in REFUSED + SEVERAL:
            self.assertEqual(whole(*START, call), ahead + [1, number], call)

    def test_changes_nothing(self):
        before = seen(*START)
        for call, _ in REFUSED + SEVERAL:
            self.assertEqual(seen(*START, call), before, call)

    def test_all_of_them_one_behind_another(self):
        found = whole(*START, *[call for call, _ in REFUSED + SEVERAL])
        self.assertEqual(found, whole(*START) + told([number for _, number in REFUSED + SEVERAL]))
        self.assertEqual(seen(*START, *[call for call, _ in REFUSED + SEVERAL]), seen(*START))

    def test_each_call_that_may_be_refused_is_there(self):
        self.assertEqual({call[0] for call, _ in REFUSED}, set(range(22)) - {0, 21})

    def test_none_is_the_start(self):
        self.assertEqual(
            whole(*START),
            told([0, 0, 0, 0, 0, 0, 0, 1, 999 * MILLION, 0, BILLION, *[0] * 51, 103, 0, [103, 0], 3, *range(50), 0]))

    def test_the_most_numbers_far_out(self):
        # Each call with all its numbers at either end.
        lengths = [2, 2, 1, 3, 3, 3, 4, 2, 3, 1, 1, 3, 1, 1, 1, 2, 3, 1, 1, 3]
        due = [-1, -1, -1, -2, -2, -2, -2, -2, -2, -6, -1, -2, -1, -2, -2, -2, -2, -1, -6, -2]
        for far in (FAR, -FAR):
            calls = [[place + 1, *[far] * length] for place, length in enumerate(lengths)]
            self.assertEqual(whole(*START, *calls), whole(*START) + told(due))
            self.assertEqual(seen(*START, *calls), seen(*START))
        self.assertEqual(len(joined(calls)), sum(lengths) + 20)


if __name__ == "__main__":
    unittest.main()

"""A refusal is its number alone and changes nothing."""

import unittest

from tests.helper import (
    BILLION, MILLION, accrue, class_of, create, holder, income, joined, mandate, rate,
    redeem, state, stop, transfer, whole,
)

# Class 0 has a full pot, class 1 all its units, class 2 a holder with all their lots; 50 accruals.
START = [
    rate(1, 5), holder(3, 1), class_of(0), class_of(1), class_of(2), mandate(0, 3, 1),
    create(0, 0, 1), income(0, MILLION), create(0, 1, 999), create(1, 3, BILLION), income(1, 7),
    *[create(2, 4, 2) for time in range(50)], create(2, 5, 3),
    *[accrue(2, 10, 3) for place in range(50)], stop(7),
]

REFUSED = [
    (rate(4, 1), -1), (rate(1, MILLION + 1), -1), (holder(20, 1), -1), (holder(3, -1), -1),
    (class_of(4), -1), (class_of(0), -4),
    (mandate(3, 3, 0), -2), (mandate(0, 20, 0), -1), (mandate(0, 3, 2), -1),
    (create(3, 0, 1), -2), (create(0, 20, 1), -1), (create(0, 0, 0), -1),
    (create(0, 0, 1), -3), (create(1, 0, 1), -3), (create(2, 4, 1), -3),
    (redeem(3, 0, 1), -2), (redeem(0, -1, 1), -1), (redeem(0, 0, 0), -1), (redeem(0, 0, 2), -5),
    (transfer(3, 0, 1, 1), -2), (transfer(0, 20, 1, 1), -1), (transfer(0, 1, 20, 1), -1),
    (transfer(0, 1, 1, 1), -1), (transfer(0, 1, 0, 0), -1), (transfer(0, 0, 1, 2), -5),
    (transfer(2, 5, 4, 1), -3),
    (income(3, 1), -2), (income(0, 0), -1), (income(0, 1), -3),
    (accrue(3, 1, 1), -2), (accrue(0, 0, 1), -1), (accrue(0, 1, 0), -1), (accrue(0, 1, 1), -3),
    (stop(50), -6), (stop(-1), -6),
]

# Shows what the calls above could have changed.
SHOW = [
    rate(1, 0), holder(3, 0), mandate(0, 3, 0), redeem(0, 0, 1), redeem(0, 1, 998), income(0, 5),
    redeem(0, 1, 1), redeem(1, 3, BILLION), redeem(2, 4, 100), redeem(2, 5, 3), class_of(3), stop(0),
]


class Refusals(unittest.TestCase):
    def test_its_number_alone(self):
        ahead = whole(*START)
        for call, number in REFUSED:
            self.assertEqual(whole(*START, call), ahead + [1, number], call)

    def test_changes_nothing(self):
        before = state(*START)
        for call, _ in REFUSED:
            self.assertEqual(state(*START, call), before, call)

    def test_what_is_answered_behind_it_is_the_same(self):
        shown = whole(*START, *SHOW)[2 * len(START):]
        for call, _ in REFUSED:
            self.assertEqual(whole(*START, call, *SHOW)[2 * len(START) + 2:], shown, call)

    def test_all_of_them_one_behind_another(self):
        found = whole(*START, *[call for call, _ in REFUSED], *SHOW)
        self.assertEqual(
            found, whole(*START) + joined([1, number] for _, number in REFUSED) + whole(*START, *SHOW)[2 * len(START):])

    def test_none_is_the_start(self):
        self.assertTrue(all(number >= 0 for number in whole(*START, *SHOW)))


if __name__ == "__main__":
    unittest.main()

"""classat, sums, holding, lot, owed, accrualat, counts."""

import unittest

from tests.helper import (
    BILLION, FAR, HALF, MILLION, NO_CLASS, NO_HOLDERS, NO_SUCH_CLASSES, NOT_THERE, OUT_OF_RANGE,
    accrualat, accrue, behind, class_of, classat, counts, create, give, holder, holding, income, last, lot, mandate,
    owed, pay, rate, redeem, seen, shown, stop, sums, tick, told, transfer, whole,
)

# Of class 1, each sum another number. Open is 2 coins; 10 units are bought for 20, 5 go for 10; a coin a unit is
# given out, of which holder 0 puts 12 in again for 6 units; pot and units are 21 then.
BUSY = [
    class_of(1), create(1, 0, 10), income(1, 20), create(1, 1, 10), redeem(1, 0, 5), mandate(1, 0, 1),
    transfer(1, 1, 0, 7), give(1, BILLION, 1)]
BUSY_ANSWERED = [0, 0, 10, 20, 10, 0, 3, [15, 6]]


class Class(unittest.TestCase):
    def test_whole_list(self):
        self.assertEqual(whole(*BUSY, classat(1)), told(BUSY_ANSWERED + [[21, 21, BILLION]]))

    def test_each_class(self):
        start = [class_of(c) for c in range(4)] + [create(c, c, c + 1) for c in range(4)] + [income(2, 6)]
        self.assertEqual(behind(start, *[classat(c) for c in range(4)]),
                         [[1, 0, 0], [2, 0, 0], [3, 6, 2 * BILLION], [4, 0, 0]])

    def test_open_is_rounded_down(self):
        self.assertEqual(shown(class_of(0), create(0, 0, 7), income(0, 5), classat(0)), [7, 5, 714285714])

    def test_no_class(self):
        for c in NO_SUCH_CLASSES:
            self.assertEqual(whole(*BUSY, classat(c)), told(BUSY_ANSWERED + [NO_CLASS]), c)


class Sums(unittest.TestCase):
    def test_whole_list(self):
        self.assertEqual(whole(*BUSY, sums(1)), told(BUSY_ANSWERED + [[20, 26, 10, 15, 12, 21]]))

    def test_they_add_up_over_time(self):
        self.assertEqual(
            behind(BUSY, income(1, 21), give(1, BILLION, 1), sums(1)), [[21], [21, 9], [41, 35, 10, 36, 30, 30]])

    def test_each_class_has_its_own(self):
        self.assertEqual(behind([*BUSY, class_of(2)], sums(2), sums(3)), [[0] * 6, [NO_CLASS]])

    def test_no_class(self):
        for c in NO_SUCH_CLASSES:
            self.assertEqual(whole(*BUSY, sums(c)), told(BUSY_ANSWERED + [NO_CLASS]), c)


class Holding(unittest.TestCase):
    def test_whole_list(self):
        self.assertEqual(
            whole(*BUSY, holding(1, 0), holding(1, 1), holding(1, 2), holding(1, 19)),
            told(BUSY_ANSWERED + [[18, 3, 18, 1], [3, 1, 3, 0], [0, 0, 0, 0], [0, 0, 0, 0]]))

    def test_what_is_open_is_rounded_down(self):
        start = [class_of(0), create(0, 0, 2), create(0, 1, 1), income(0, 8)]
        self.assertEqual(behind(start, holding(0, 0), holding(0, 1)), [[2, 1, 5, 0], [1, 1, 2, 0]])

    def test_what_is_open_is_rounded_once_for_all_lots(self):
        start = [class_of(0), create(0, 0, 1), create(0, 0, 1), create(0, 0, 1), create(0, 1, 1), income(0, 6)]
        self.assertEqual(shown(*start, holding(0, 0)), [3, 3, 4, 0])

    def test_the_mandate_without_units(self):
        self.assertEqual(shown(class_of(0), mandate(0, 5, 1), holding(0, 5)), [0, 0, 0, 1])
        self.assertEqual(shown(class_of(0), mandate(0, 5, 1), mandate(0, 5, 0), holding(0, 5)), [0, 0, 0, 0])

    def test_no_class(self):
        for c in NO_SUCH_CLASSES:
            self.assertEqual(last(*BUSY, holding(c, 0)), NO_CLASS, c)

    def test_out_of_range(self):
        for h in NO_HOLDERS:
            self.assertEqual(last(*BUSY, holding(1, h)), OUT_OF_RANGE, h)

    def test_no_class_is_told_first(self):
        self.assertEqual(last(*BUSY, holding(0, 20)), NO_CLASS)
        self.assertEqual(last(*BUSY, holding(4, -1)), NO_CLASS)


class Lot(unittest.TestCase):
    def test_whole_list(self):
        # The lots of holder 0: of the first units, of those from holder 1, of those put in again.
        self.assertEqual(
            whole(*BUSY, lot(1, 0, 0), lot(1, 0, 1), lot(1, 0, 2), lot(1, 0, 3), lot(1, 1, 0), lot(1, 1, 1)),
            told(BUSY_ANSWERED + [[5, 2 * BILLION, 0], [7, 0, BILLION], [6, 0, BILLION], NOT_THERE,
                                  [3, 0, BILLION], NOT_THERE]))

    def test_an_entry_below_what_is_given_counts_as_nothing(self):
        start = [class_of(0), create(0, 0, 10), income(0, 10), create(0, 1, 10), income(0, 40)]
        self.assertEqual(
            behind(start, lot(0, 1, 0), give(0, 400000000, 1), lot(0, 1, 0), give(0, 600000000, 1), lot(0, 1, 0),
                   give(0, 100000000, 1), lot(0, 1, 0), lot(0, 0, 0)),
            [[10, 2 * BILLION, BILLION], [8, 0], [10, 2 * BILLION, 600000000], [12, 0], [10, 2 * BILLION, 0],
             [2, 0], [10, 2 * BILLION, 0], [10, 3 * BILLION, 0]])

    def test_the_fiftieth(self):
        start = [class_of(0), *[create(0, 19, place + 1) for place in range(50)]]
        self.assertEqual(
            behind(start, lot(0, 19, 0), lot(0, 19, 49), lot(0, 19, 50), lot(0, 18, 0)),
            [[1, 0, 0], [50, 0, 0], [NOT_THERE], [NOT_THERE]])

    def test_none_such(self):
        for i in (3, 4, 50, -1, -3, -4, -FAR, FAR):
            self.assertEqual(last(*BUSY, lot(1, 0, i)), NOT_THERE, i)
        for i in (0, -1, 1):
            self.assertEqual(last(*BUSY, lot(1, 2, i)), NOT_THERE, i)

    def test_no_class(self):
        for c in NO_SUCH_CLASSES:
            self.assertEqual(last(*BUSY, lot(c, 0, 0)), NO_CLASS, c)

    def test_out_of_range(self):
        for h in NO_HOLDERS:
            self.assertEqual(last(*BUSY, lot(1, h, 0)), OUT_OF_RANGE, h)

    def test_the_first_refusal_told_counts(self):
        self.assertEqual(last(*BUSY, lot(0, 20, 9)), NO_CLASS)
        self.assertEqual(last(*BUSY, lot(0, 0, 9)), NO_CLASS)
        self.assertEqual(last(*BUSY, lot(1, 20, 9)), OUT_OF_RANGE)
        self.assertEqual(last(*BUSY, lot(1, -1, -1)), OUT_OF_RANGE)


class Owed(unittest.TestCase):
    def test_whole_list(self):
        # Each of the six another number: 18 coins and then 6; 8 of the 18 are capital, 3 of 10 and 1 of 6 are tax.
        start = [
            rate(2, 300000), holder(1, 2), class_of(0), create(0, 0, 8), income(0, 8), create(0, 1, 8),
            transfer(0, 0, 1, 4), income(0, 16), give(0, 1500000000, 1), pay(1), give(0, HALF, 1)]
        self.assertEqual(
            whole(*start, owed(1), owed(0), owed(19)),
            told([0, 0, 0, 0, 8, 8, 4, 16, [24, 0], 15, [8, 0],
                  [5, 15, 4, 8, 16, 2], [8, 0, 0, 0, 8, 0], [0, 0, 0, 0, 0, 0]]))

    def test_shows_the_kind(self):
        self.assertEqual(whole(holder(19, 2), owed(19), owed(18)), told([0, [0, 0, 0, 0, 0, 2], [0] * 6]))

    def test_out_of_range(self):
        for h in NO_HOLDERS:
            self.assertEqual(whole(owed(h)), [1, OUT_OF_RANGE], h)


class Accrual(unittest.TestCase):
    start = [class_of(0), class_of(3), accrue(3, 10, 7), accrue(0, MILLION, 1000), tick(3), stop(0), tick(2)]

    def test_whole_list(self):
        self.assertEqual(
            whole(*self.start, accrualat(0), accrualat(1), accrualat(2)),
            told([0, 0, 0, 1, 3, 4, 5, [3, 10, 7, 3, 4, 1], [0, MILLION, 1000, 5, 5000, 0], NOT_THERE]))

    def test_none_such(self):
        for place in (0, 1, -1, -FAR, FAR):
            self.assertEqual(whole(accrualat(place)), [1, NOT_THERE], place)
        for place in (2, 50, -1, -2, -FAR, FAR):
            self.assertEqual(last(*self.start, accrualat(place)), NOT_THERE, place)

    def test_the_fiftieth(self):
        start = [class_of(0), *[accrue(0, place + 1, 5) for place in range(50)]]
        self.assertEqual(
            behind(start, accrualat(49), accrualat(50), counts()), [[0, 50, 5, 0, 0, 0], [NOT_THERE], [0, 50, 0]])


class Counts(unittest.TestCase):
    def test_whole_list(self):
        self.assertEqual(
            whole(counts(), class_of(0), accrue(0, 10, 4), accrue(0, 1, 1), counts(), tick(2), counts(), income(0, 9),
                  stop(0), tick(5), counts()),
            told([[0, 0, 0], 0, 0, 1, [0, 2, 0], 2, [2, 2, 6], 0, 5, 7, [7, 2, 15]]))


class Shows(unittest.TestCase):
    def test_they_change_nothing(self):
        before = seen(*BUSY)
        for show in (classat(1), sums(1), holding(1, 0), lot(1, 0, 1), owed(0), accrualat(0), counts()):
            self.assertEqual(seen(*BUSY, show), before, show)


if __name__ == "__main__":
    unittest.main()

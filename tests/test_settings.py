"""clear, rate, holder, class, mandate."""

import unittest

from tests.helper import (
    BILLION, FAR, MILLION, NO_CLASS, NO_HOLDERS, NO_SUCH_CLASSES, OUT_OF_RANGE, THERE_ALREADY,
    accrualat, accrue, behind, class_of, classat, clear, counts, create, give, holder, holding, income, last, lot,
    mandate, owed, pay, quote, rate, redeem, seen, stop, sums, tick, told, transfer, whole,
)


# Something of all that there may be: days, accruals, unclaimed and owed coins, rates, kinds, tax, capital.
BUSY = [
    rate(1, 500000), holder(3, 1), class_of(0), class_of(1), income(1, 7), create(0, 0, 10), create(0, 3, 10),
    mandate(0, 0, 1), income(0, 20), create(0, 4, 5), accrue(0, 10, 5), tick(2), stop(0), give(0, 1000000000, 4),
    pay(4), redeem(0, 4, 1), transfer(0, 3, 5, 2)]
# Open is 1160000000 parts at the giving out: 10 coins for 0, who put 8 and 1 in again for 2 units;
# 10 less 5 of tax for 3, and 5 for 4.
BUSY_ANSWERED = [0, 0, 0, 0, 0, 0, 0, 0, 20, 5, 0, 2, 4, [25, 2], 5, 0, 8]


class Clear(unittest.TestCase):
    def test_answers_zero(self):
        self.assertEqual(whole(clear()), [1, 0])
        self.assertEqual(whole(clear(), clear()), [1, 0, 1, 0])

    def test_nothing_is_there_behind_it(self):
        found = whole(
            rate(2, 500), holder(7, 2), class_of(1), mandate(1, 7, 1), create(1, 7, 10),
            income(1, 5), accrue(1, 10, 3), clear(),
            rate(2, 1), holder(7, 1), stop(0), mandate(1, 7, 1), create(1, 7, 1),
            redeem(1, 7, 1), transfer(1, 7, 8, 1), income(1, 1), accrue(1, 1, 1),
            class_of(1), mandate(1, 7, 0), redeem(1, 7, 1), income(1, 1), create(1, 7, 4),
            accrue(1, 1, 1), redeem(1, 7, 4))
        self.assertEqual(found, told([
            0, 0, 0, 0, 0, 10, 0, 0,
            0, 0, -6, -2, -2, -2, -2, -2, -2,
            0, 0, -5, 0, 0, 0, 0]))

    def test_nothing_is_shown_behind_it(self):
        self.assertEqual(
            whole(*BUSY, clear(), counts(), classat(0), sums(1), holding(0, 0), lot(0, 0, 0), owed(0), owed(3),
                  accrualat(0), quote(0, 0, 0), give(0, 1, 1), pay(0), tick(1), rate(1, 0), holder(3, 0)),
            told(BUSY_ANSWERED + [
                0, [0, 0, 0], -2, -2, -2, -2, [0] * 6, [0] * 6, -6, -2, -2, 0, 1, 0, 0]))

    def test_a_class_made_anew_has_nothing_of_the_old_one(self):
        self.assertEqual(
            behind([*BUSY, clear()], class_of(0), classat(0), sums(0), holding(0, 0), lot(0, 0, 0), tick(10),
                   classat(0), create(0, 0, 10), income(0, 10), give(0, BILLION, 1), classat(0), owed(0)),
            [[0], [0] * 3, [0] * 6, [0] * 4, [-6], [10], [0] * 3, [0], [10], [10, 0], [10, 0, 0],
             [10, 0, 0, 0, 10, 0]])

    def test_leaves_all_as_at_first(self):
        self.assertEqual(seen(*BUSY, clear()), seen())
        self.assertNotEqual(seen(*BUSY), seen())

    def test_twice_in_one_list(self):
        self.assertEqual(whole(*BUSY, clear(), *BUSY, clear(), *BUSY), told((BUSY_ANSWERED + [0]) * 2 + BUSY_ANSWERED))


class Rate(unittest.TestCase):
    def test_answers_the_rate_before(self):
        self.assertEqual(
            whole(rate(0, 250000), rate(0, 1), rate(0, 7)), [1, 0, 1, 250000, 1, 1])

    def test_each_kind_has_its_own(self):
        calls = [rate(kind, 10 + kind) for kind in range(4)] + [rate(kind, 0) for kind in range(4)]
        self.assertEqual(whole(*calls), told([0, 0, 0, 0, 10, 11, 12, 13]))

    def test_edges(self):
        self.assertEqual(
            whole(rate(0, MILLION), rate(0, 0), rate(3, MILLION), rate(3, 0)),
            told([0, MILLION, 0, MILLION]))

    def test_out_of_range(self):
        for kind in (-1, 4, -FAR, FAR):
            self.assertEqual(whole(rate(kind, 5)), [1, OUT_OF_RANGE], kind)
        for number in (-1, MILLION + 1, -FAR, FAR):
            self.assertEqual(whole(rate(0, 3), rate(0, number), rate(0, 0)), told([0, -1, 3]), number)
        self.assertEqual(whole(rate(4, MILLION + 1)), [1, OUT_OF_RANGE])


class HolderKind(unittest.TestCase):
    def test_answers_the_kind_before(self):
        self.assertEqual(whole(holder(5, 3), holder(5, 1), holder(5, 0)), [1, 0, 1, 3, 1, 1])

    def test_each_holder_has_their_own(self):
        calls = [holder(h, h % 4) for h in range(20)] + [holder(h, 0) for h in range(20)]
        self.assertEqual(whole(*calls), told([0] * 20 + [h % 4 for h in range(20)]))

    def test_out_of_range(self):
        for h in NO_HOLDERS:
            self.assertEqual(whole(holder(h, 0)), [1, OUT_OF_RANGE], h)
        for kind in (-1, 4, -FAR, FAR):
            self.assertEqual(whole(holder(19, 2), holder(19, kind), holder(19, 0)), told([0, -1, 2]), kind)
        self.assertEqual(whole(holder(20, 4)), [1, OUT_OF_RANGE])

    def test_a_rate_is_not_a_kind(self):
        self.assertEqual(whole(rate(1, 9), holder(1, 1), rate(1, 0)), told([0, 0, 9]))


class Class(unittest.TestCase):
    def test_answers_zero(self):
        self.assertEqual(whole(class_of(0)), [1, 0])
        self.assertEqual(whole(class_of(3), class_of(2), class_of(1), class_of(0)), told([0] * 4))

    def test_the_class_is_there(self):
        self.assertEqual(whole(income(2, 1), class_of(2), income(2, 1), income(1, 1)), told([-2, 0, 0, -2]))

    def test_out_of_range(self):
        for c in (-1, 4, -FAR, FAR):
            self.assertEqual(whole(class_of(c), class_of(c)), told([-1, -1]), c)

    def test_there_already(self):
        for c in range(4):
            self.assertEqual(last(class_of(c), class_of(c)), THERE_ALREADY)

    def test_there_already_leaves_the_class_as_it_is(self):
        self.assertEqual(
            whole(class_of(0), create(0, 0, 4), income(0, 8), class_of(0), redeem(0, 0, 3)),
            told([0, 0, 4, -4, 6]))


class Mandate(unittest.TestCase):
    def test_answers_what_was_before(self):
        self.assertEqual(
            whole(class_of(0), mandate(0, 3, 1), mandate(0, 3, 1), mandate(0, 3, 0), mandate(0, 3, 0)),
            told([0, 0, 1, 1, 0]))

    def test_is_of_one_class_and_one_holder(self):
        self.assertEqual(
            whole(class_of(0), class_of(3), mandate(0, 0, 1), mandate(0, 19, 0), mandate(3, 0, 0),
                  mandate(3, 19, 1), mandate(0, 0, 0), mandate(0, 19, 0), mandate(3, 0, 0), mandate(3, 19, 0)),
            told([0, 0, 0, 0, 0, 0, 1, 0, 0, 1]))

    def test_no_class(self):
        for c in NO_SUCH_CLASSES:
            self.assertEqual(last(class_of(1), mandate(c, 0, 1)), NO_CLASS, c)

    def test_out_of_range(self):
        for h in NO_HOLDERS:
            self.assertEqual(last(class_of(1), mandate(1, h, 1)), OUT_OF_RANGE, h)
        for on in (-1, 2, -FAR, FAR):
            self.assertEqual(
                whole(class_of(1), mandate(1, 0, on), mandate(1, 0, 1), mandate(1, 0, on), mandate(1, 0, 0)),
                told([0, -1, 0, -1, 1]), on)

    def test_no_class_is_told_first(self):
        self.assertEqual(last(class_of(1), mandate(0, 20, 2)), NO_CLASS)
        self.assertEqual(last(class_of(1), mandate(4, -1, 0)), NO_CLASS)


class AtFirst(unittest.TestCase):
    def test_of_the_house(self):
        self.assertEqual(whole(counts(), accrualat(0)), told([[0, 0, 0], -6]))
        self.assertEqual(whole(*[rate(kind, 1) for kind in range(4)]), told([0] * 4))
        self.assertEqual(whole(*[classat(c) for c in range(4)]), told([-2] * 4))

    def test_of_a_holder(self):
        self.assertEqual(whole(*[owed(h) for h in range(20)]), told([[0] * 6] * 20))

    def test_of_a_class(self):
        self.assertEqual(
            whole(class_of(2), classat(2), sums(2), *[holding(2, h) for h in range(20)], lot(2, 0, 0)),
            told([0, [0] * 3, [0] * 6, *[[0] * 4] * 20, -6]))


if __name__ == "__main__":
    unittest.main()

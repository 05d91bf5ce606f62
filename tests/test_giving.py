"""give, quote, pay."""

import unittest

from tests.helper import (
    BILLION, FAR, HALF, MILLION, NO_CLASS, NO_HOLDERS, NO_ROOM, NO_SUCH_CLASSES, OUT_OF_RANGE, TOO_LITTLE,
    behind, class_of, classat, create, give, holder, holding, income, last, lot, lots, mandate, owed, pay, quote,
    rate, redeem, seen, shown, sums, told, transfer, whole,
)

# Ten units of holder 0, on which 25 coins have risen: open is 2500000000 parts.
RISEN = [class_of(0), create(0, 0, 10), income(0, 25)]
AGAIN = [*RISEN, mandate(0, 0, 1)]

# A thousand million coins on a thousand units.
FULL = [class_of(0), create(0, 0, 1), income(0, MILLION), create(0, 1, 999)]

# Holder 1's lots: 5 units that came at 1 coin, 5 at 2 coins, 2 at nothing. Open is 2 coins, the pot 40.
LOTS = [
    class_of(0), create(0, 0, 10), income(0, 10), create(0, 1, 5), income(0, 15), create(0, 1, 5),
    transfer(0, 0, 1, 2)]


class Give(unittest.TestCase):
    def test_all_that_is_open(self):
        self.assertEqual(
            whole(*RISEN, give(0, 2500000000, 1), classat(0), sums(0), owed(0), holding(0, 0), lot(0, 0, 0)),
            told([0, 0, 10, [25, 0], [10, 0, 0], [25, 0, 0, 25, 0, 0], [25, 0, 0, 0, 25, 0], [10, 1, 0, 0],
                  [10, 2500000000, 0]]))

    def test_less_than_is_open(self):
        self.assertEqual(
            whole(*RISEN, give(0, BILLION, 1), classat(0), sums(0), owed(0), give(0, 1500000000, 7), classat(0),
                  sums(0), owed(0)),
            told([0, 0, 10, [10, 0], [10, 15, 1500000000], [25, 0, 0, 10, 0, 15], [10, 0, 0, 0, 10, 0],
                  [15, 0], [10, 0, 0], [25, 0, 0, 25, 0, 0], [25, 0, 0, 0, 25, 0]]))

    def test_all_is_rounded_down(self):
        # 10 coins on 3 units; the coin that is left is open again.
        start = [class_of(0), create(0, 0, 2), create(0, 19, 1), income(0, 10)]
        self.assertEqual(
            behind(start, give(0, 3333333333, 1), owed(0), owed(19), classat(0), sums(0)),
            [[9, 0], [6, 0, 0, 0, 6, 0], [3, 0, 0, 0, 3, 0], [3, 1, 333333333], [10, 0, 0, 9, 0, 1]])

    def test_each_holder_gets_their_own(self):
        start = [class_of(0), *[create(0, h, h + 1) for h in range(20)], income(0, 420)]
        self.assertEqual(
            behind(start, give(0, 2 * BILLION, 1), *[owed(h) for h in range(20)], classat(0)),
            [[420, 0], *[[2 * h + 2, 0, 0, 0, 2 * h + 2, 0] for h in range(20)], [210, 0, 0]])

    def test_a_holder_without_units(self):
        start = [*RISEN, mandate(0, 3, 1)]
        self.assertEqual(
            behind(start, give(0, BILLION, 1), owed(3), holding(0, 3), lot(0, 3, 0), quote(0, BILLION, 3)),
            [[10, 0], [0] * 6, [0, 0, 0, 1], [-6], [0, 0, 0]])

    def test_is_of_one_class(self):
        start = [*RISEN, class_of(1), create(1, 0, 5), income(1, 5), mandate(1, 0, 1)]
        shows = [classat(1), sums(1), holding(1, 0), lot(1, 0, 0)]
        self.assertEqual(behind([*start, give(0, BILLION, 1)], *shows), behind(start, *shows))
        self.assertEqual(
            behind(start, give(0, BILLION, 1), give(1, BILLION, 1), owed(0), holding(0, 0), holding(1, 0)),
            [[10, 0], [5, 5], [10, 0, 0, 0, 15, 0], [10, 1, 15, 0], [10, 2, 0, 1]])

    def test_what_is_less_than_a_coin_stays_in_the_pot(self):
        # A third of a coin a unit, for three holders: none gets any, and it's open as before.
        start = [class_of(0), create(0, 0, 1), create(0, 1, 1), create(0, 2, 1), income(0, 1)]
        self.assertEqual(
            behind(start, give(0, 333333333, 1), classat(0), sums(0), lot(0, 0, 0), owed(0), create(0, 3, 3),
                   give(0, 1, 1), classat(0), lot(0, 3, 0)),
            [[0, 0], [3, 1, 333333333], [1, 0, 0, 0, 0, 1], [1, 666666666, 0], [0] * 6, [1],
             [0, 0], [6, 2, 333333333], [3, 1, 333333332]])

    def test_a_full_pot_stays_whole(self):
        start = [*FULL, mandate(0, 0, 1), mandate(0, 1, 1)]
        self.assertEqual(
            behind(start, give(0, 1001001, 1), classat(0), sums(0), holding(0, 1)),
            [[0, 0], [1000, BILLION, MILLION * BILLION], [MILLION, 999 * MILLION, 0, 0, 0, BILLION],
             [999, 1, 999 * MILLION, 1]])

    def test_a_full_pot_that_much_is_put_into_again(self):
        # Holder 1 gets 499500000 coins; 998 units cost a coin each, and 500000 for what stays.
        start = [*FULL, mandate(0, 1, 1)]
        self.assertEqual(
            behind(start, give(0, 500000 * BILLION, 1), classat(0), sums(0), owed(0), owed(1), holding(0, 1)),
            [[500 * MILLION, 998], [1998, 999 * MILLION, 500000 * BILLION],
             [MILLION, 999 * MILLION + 499 * MILLION, 0, 500 * MILLION, 499000998, 999 * MILLION],
             [500000, 0, 0, 0, 500000, 0], [499002, 0, 0, 499500000, 0, 0], [1997, 2, 998500000, 1]])

    def test_redeemed_and_bought_behind_it(self):
        start = [*RISEN, give(0, BILLION, 1)]
        self.assertEqual(
            behind(start, create(0, 1, 2), redeem(0, 0, 4), classat(0), sums(0), redeem(0, 0, 6), redeem(0, 1, 2)),
            [[3], [6], [8, 12, 1500000000], [25, 3, 6, 10, 0, 12], [9], [3]])


class Tax(unittest.TestCase):
    rates = [rate(1, 250000), rate(2, 333333), rate(3, MILLION)]
    start = [
        *rates, holder(1, 1), holder(2, 2), holder(3, 3), class_of(0), *[create(0, h, 10) for h in range(4)],
        income(0, 40)]

    def test_by_each_kinds_rate(self):
        self.assertEqual(
            behind(self.start, give(0, BILLION, 1), owed(0), owed(1), owed(2), owed(3), classat(0), sums(0)),
            [[40, 0], [10, 0, 0, 0, 10, 0], [8, 0, 2, 0, 10, 1], [7, 0, 3, 0, 10, 2], [0, 0, 10, 0, 10, 3],
             [40, 0, 0], [40, 0, 0, 40, 0, 0]])

    def test_is_rounded_down(self):
        for millionths, tax in ((0, 0), (99999, 0), (100000, 1), (199999, 1), (200000, 2), (999999, 9), (MILLION, 10)):
            calls = [*self.start, rate(0, millionths)]
            self.assertEqual(
                behind(calls, quote(0, BILLION, 0), give(0, BILLION, 1), owed(0)),
                [[10, 0, tax], [40, 0], [10 - tax, 0, tax, 0, 10, 0]], millionths)

    def test_is_by_the_rate_and_kind_of_then(self):
        self.assertEqual(
            behind(self.start, give(0, HALF, 1), rate(1, 600000), holder(0, 3), give(0, HALF, 1), owed(0), owed(1)),
            [[20, 0], [250000], [0], [20, 0], [5, 0, 5, 0, 10, 3], [6, 0, 4, 0, 10, 1]])

    def test_is_of_each_giving_out_by_itself(self):
        # A quarter of 10 coins is 2; of 3, 3 and 4 coins it's 0, 0 and 1.
        self.assertEqual(
            behind(self.start, give(0, 300000000, 1), give(0, 300000000, 1), give(0, 400000000, 1), owed(1)),
            [[12, 0], [12, 0], [16, 0], [9, 0, 1, 0, 10, 1]])

    def test_none_of_capital(self):
        start = [rate(0, MILLION), *LOTS]
        self.assertEqual(
            behind(start, quote(0, 2 * BILLION, 1), give(0, 2 * BILLION, 1), owed(0), owed(1)),
            [[24, 15, 9], [40, 0], [0, 0, 16, 0, 16, 0], [15, 0, 9, 15, 9, 0]])

    def test_of_income_that_is_put_in_again(self):
        start = [*AGAIN, rate(2, 200000), holder(0, 2)]
        self.assertEqual(
            behind(start, give(0, 2500000000, 4), owed(0), holding(0, 0), sums(0)),
            [[25, 5], [0, 0, 5, 0, 25, 2], [15, 2, 0, 1], [25, 0, 0, 25, 20, 0]])


class Capital(unittest.TestCase):
    def test_of_several_lots(self):
        self.assertEqual(lots(LOTS, 0, 1), [(5, BILLION), (5, 2 * BILLION), (2, 0)])
        for r, part in (
                (HALF, [6, 5, 0]), (BILLION, [12, 10, 0]), (1500000000, [18, 13, 0]), (2 * BILLION, [24, 15, 0]),
                (1, [0, 0, 0]), (83333333, [0, 0, 0]), (83333334, [1, 1, 0])):
            self.assertEqual(shown(*LOTS, quote(0, r, 1)), part, r)

    def test_of_lots_before_and_behind_the_last_giving_out(self):
        start = [*LOTS, give(0, 1500000000, 1), create(0, 2, 4)]
        self.assertEqual(
            behind(LOTS, give(0, 1500000000, 1), create(0, 2, 4), classat(0), owed(0), owed(1)),
            [[30, 0], [2], [24, 12, HALF], [12, 0, 0, 0, 12, 0], [18, 0, 0, 13, 5, 0]])
        self.assertEqual(lots(start, 0, 1), [(5, 0), (5, HALF), (2, 0)])
        self.assertEqual(lots(start, 0, 2), [(4, HALF)])
        self.assertEqual(
            behind(start, quote(0, HALF, 1), quote(0, 400000000, 1), quote(0, HALF, 2), give(0, HALF, 1), owed(0),
                   owed(1), owed(2), classat(0)),
            [[6, 3, 0], [4, 2, 0], [2, 2, 0], [12, 0], [16, 0, 0, 0, 16, 0], [24, 0, 0, 16, 8, 0],
             [2, 0, 0, 2, 0, 0], [24, 0, 0]])

    def test_is_rounded_up_once_for_all_lots(self):
        # Two lots of half a coin each are one coin of capital, not two.
        start = [
            class_of(0), create(0, 0, 4), income(0, 2), create(0, 1, 2), transfer(0, 1, 2, 1), transfer(0, 2, 1, 1),
            transfer(0, 0, 1, 2)]
        self.assertEqual(lots(start, 0, 1), [(1, HALF), (1, HALF), (2, 0)])
        self.assertEqual(behind(start, quote(0, HALF, 1), give(0, HALF, 1), owed(1)),
                         [[2, 1, 0], [3, 0], [2, 0, 0, 1, 1, 0]])

    def test_is_rounded_up(self):
        # 3 units that paid for half a coin: 1.5 coins, of the 3 coins on 6 units.
        start = [class_of(0), create(0, 0, 10), income(0, 5), create(0, 1, 3), transfer(0, 0, 1, 3)]
        self.assertEqual(behind(start, classat(0), quote(0, HALF, 1)), [[13, 7, 538461538], [3, 2, 0]])

    def test_is_no_more_than_all(self):
        # 4 units that paid for a third of a coin: 1.3 coins in all, 1 rounded down and 2 rounded up.
        start = [rate(0, MILLION), class_of(0), create(0, 0, 3), income(0, 1), create(0, 1, 4)]
        self.assertEqual(
            behind(start, quote(0, 333333333, 1), give(0, 333333333, 1), owed(1), classat(0), sums(0)),
            [[1, 1, 0], [1, 0], [1, 0, 0, 1, 0, 0], [7, 2, 285714285], [1, 2, 0, 1, 0, 2]])

    def test_where_all_is_nothing(self):
        start = [class_of(0), create(0, 0, 3), income(0, 1), create(0, 1, 1)]
        self.assertEqual(shown(*start, quote(0, 333333333, 1)), [0, 0, 0])

    def test_goes_with_the_units_to_another(self):
        start = [*LOTS, transfer(0, 1, 7, 7)]
        self.assertEqual(
            behind(start, quote(0, 2 * BILLION, 7), quote(0, 2 * BILLION, 1)), [[14, 9, 0], [10, 6, 0]])


class PutInAgain(unittest.TestCase):
    def test_with_nothing_that_stays(self):
        self.assertEqual(
            whole(*AGAIN, give(0, 2500000000, 4), classat(0), sums(0), owed(0), holding(0, 0), lot(0, 0, 0),
                  lot(0, 0, 1), lot(0, 0, 2)),
            told([0, 0, 10, 0, [25, 6], [16, 0, 0], [25, 0, 0, 25, 24, 0], [1, 0, 0, 0, 25, 0], [16, 2, 0, 1],
                  [10, 2500000000, 0], [6, 0, 0], -6]))

    def test_with_something_that_stays(self):
        # 2 units for 2 coins each, and 3 coins for the 1500000000 parts a unit that stay.
        self.assertEqual(
            whole(*AGAIN, give(0, BILLION, 2), classat(0), sums(0), owed(0), holding(0, 0), lot(0, 0, 0),
                  lot(0, 0, 1), quote(0, 1500000000, 0)),
            told([0, 0, 10, 0, [10, 2], [12, 18, 1500000000], [25, 3, 0, 10, 7, 18], [3, 0, 0, 0, 10, 0],
                  [12, 2, 18, 1], [10, 2500000000, 0], [2, 0, 1500000000], [18, 3, 0]]))

    def test_what_is_paid_for_what_stays_is_rounded_up(self):
        # 5 units at 1.3 coins: 6.5, so 7; the half coin belongs to all units then.
        self.assertEqual(
            behind(AGAIN, give(0, 1200000000, 1), classat(0), sums(0), owed(0), lot(0, 0, 1)),
            [[12, 5], [15, 20, 1333333333], [25, 7, 0, 12, 12, 20], [0, 0, 0, 0, 12, 0], [5, 33333333, 1300000000]])

    def test_new_units_are_rounded_down(self):
        for price, units, left in (
                (1, 25, 0), (2, 12, 1), (3, 8, 1), (5, 5, 0), (12, 2, 1), (13, 1, 12), (24, 1, 1), (25, 1, 0)):
            self.assertEqual(
                behind(AGAIN, give(0, 2500000000, price), owed(0), holding(0, 0), sums(0)),
                [[25, units], [left, 0, 0, 0, 25, 0], [10 + units, 2, 0, 1], [25, 0, 0, 25, 25 - left, 0]], price)

    def test_net_less_than_the_price(self):
        for price in (26, MILLION):
            self.assertEqual(
                behind(AGAIN, give(0, 2500000000, price), owed(0), holding(0, 0), lot(0, 0, 1), sums(0), classat(0)),
                [[25, 0], [25, 0, 0, 0, 25, 0], [10, 1, 0, 1], [-6], [25, 0, 0, 25, 0, 0], [10, 0, 0]])

    def test_net_less_than_the_price_with_what_stays(self):
        # 10 coins: a unit for 9 costs 1.5 more for what stays, for 8 it's 9.5, and 10 in whole coins.
        self.assertEqual(
            behind(AGAIN, give(0, BILLION, 9), owed(0), sums(0)),
            [[10, 0], [10, 0, 0, 0, 10, 0], [25, 0, 0, 10, 0, 15]])
        self.assertEqual(
            behind(AGAIN, give(0, BILLION, 8), owed(0), sums(0), classat(0)),
            [[10, 1], [0, 0, 0, 0, 10, 0], [25, 2, 0, 10, 10, 17], [11, 17, 1545454545]])

    def test_each_part_is_as_it_was_at_the_beginning(self):
        start = [class_of(0), create(0, 0, 10), income(0, 20), create(0, 1, 10), mandate(0, 0, 1), mandate(0, 1, 1)]
        parts = behind(start, quote(0, BILLION, 0), quote(0, BILLION, 1))
        self.assertEqual(parts, [[10, 0, 0], [10, 10, 0]])
        self.assertEqual(
            behind(start, give(0, BILLION, 1), classat(0), sums(0), owed(0), owed(1), lot(0, 0, 1), lot(0, 1, 1)),
            [[20, 10], [30, 30, BILLION], [20, 30, 0, 20, 20, 30], [0, 0, 0, 0, 10, 0], [0, 0, 0, 10, 0, 0],
             [5, 0, BILLION], [5, 0, BILLION]])

    def test_the_entry_is_of_the_beginning_for_the_last_holder_too(self):
        # The 6.5 and 7 coins leave something to bring up, but at last only.
        start = [
            class_of(0), create(0, 0, 10), create(0, 19, 10), income(0, 50), mandate(0, 0, 1), mandate(0, 19, 1)]
        self.assertEqual(
            behind(start, give(0, 1200000000, 1), classat(0), lot(0, 0, 1), lot(0, 19, 1)),
            [[24, 10], [30, 40, 1333333333], [5, 33333333, 1300000000], [5, 33333333, 1300000000]])

    def test_beside_others_who_are_paid(self):
        start = [class_of(0), create(0, 0, 10), create(0, 1, 10), income(0, 50), mandate(0, 1, 1)]
        self.assertEqual(
            behind(start, give(0, 2500000000, 4), owed(0), owed(1), holding(0, 0), holding(0, 1), sums(0)),
            [[50, 6], [25, 0, 0, 0, 25, 0], [1, 0, 0, 0, 25, 0], [10, 1, 0, 0], [16, 2, 0, 1],
             [50, 0, 0, 50, 24, 0]])

    def test_not_once_it_is_off(self):
        self.assertEqual(
            behind([*AGAIN, mandate(0, 0, 0)], give(0, 2500000000, 4), owed(0), holding(0, 0)),
            [[25, 0], [25, 0, 0, 0, 25, 0], [10, 1, 0, 0]])

    def test_new_units_rise_with_the_others(self):
        self.assertEqual(
            behind(AGAIN, give(0, 2500000000, 4), income(0, 16), give(0, BILLION, 3), classat(0), owed(0),
                   lot(0, 0, 2)),
            [[25, 6], [16], [16, 5], [21, 0, 0], [2, 0, 0, 0, 41, 0], [5, 0, 0]])


class Room(unittest.TestCase):
    def test_the_fiftieth_lot(self):
        start = [class_of(0), *[create(0, 4, 2) for time in range(49)], income(0, 98), mandate(0, 4, 1)]
        self.assertEqual(
            behind(start, give(0, HALF, 49), holding(0, 4), lot(0, 4, 49), lot(0, 4, 50)),
            [[49, 0], [98, 49, 49, 1], [-6], [-6]])
        self.assertEqual(
            behind(start, give(0, BILLION, 49), holding(0, 4), lot(0, 4, 49), lot(0, 4, 50)),
            [[98, 2], [100, 50, 0, 1], [2, 0, 0], [-6]])

    def test_the_fifty_first_lot(self):
        start = [class_of(0), *[create(0, 4, 2) for time in range(50)], create(0, 5, 10), income(0, 110)]
        again = [*start, mandate(0, 4, 1), mandate(0, 5, 1)]
        self.assertEqual(last(*again, give(0, BILLION, 1)), NO_ROOM)
        self.assertEqual(last(*again, give(0, BILLION, 100)), NO_ROOM)
        self.assertEqual(seen(*again, give(0, BILLION, 1)), seen(*again))

    def test_fifty_lots_where_no_units_are_made(self):
        start = [class_of(0), *[create(0, 4, 2) for time in range(50)], create(0, 5, 10), income(0, 110)]
        again = [*start, mandate(0, 4, 1), mandate(0, 5, 1)]
        self.assertEqual(
            behind(again, give(0, BILLION, 101), holding(0, 4), owed(4)),
            [[110, 0], [100, 50, 0, 1], [100, 0, 0, 0, 100, 0]])
        self.assertEqual(behind([*start, mandate(0, 5, 1)], give(0, BILLION, 1), holding(0, 4)),
                         [[110, 10], [100, 50, 0, 0]])

    def test_fifty_lots_of_another_class(self):
        start = [*AGAIN, class_of(1), *[create(1, 0, 2) for time in range(50)]]
        self.assertEqual(shown(*start, give(0, BILLION, 1)), [10, 4])

    def nearly_all_units(self, missing):
        # 0.001 coins a unit; 6000 units of the holders 1 and 2 put 6 coins in again.
        return [
            class_of(0), create(0, 0, BILLION - 6000 - missing), create(0, 1, 3000), create(0, 2, 3000),
            income(0, MILLION), mandate(0, 1, 1), mandate(0, 2, 1)]

    def test_the_most_units(self):
        self.assertEqual(
            behind(self.nearly_all_units(6), classat(0), give(0, MILLION, 1), classat(0), holding(0, 2)),
            [[BILLION - 6, MILLION, MILLION], [999999, 6], [BILLION, 1, 1], [3003, 2, 0, 1]])

    def test_one_unit_more(self):
        start = self.nearly_all_units(5)
        self.assertEqual(last(*start, give(0, MILLION, 1)), NO_ROOM)
        self.assertEqual(seen(*start, give(0, MILLION, 1)), seen(*start))
        self.assertEqual(behind(start, give(0, MILLION, 2), classat(0)), [[999999, 2], [BILLION - 3, 1, 1]])

    def test_of_one_holder_alone(self):
        start = [*self.nearly_all_units(3), mandate(0, 2, 0)]
        self.assertEqual(shown(*start, give(0, MILLION, 1)), [999999, 3])
        start = [*self.nearly_all_units(2), mandate(0, 2, 0)]
        self.assertEqual(last(*start, give(0, MILLION, 1)), NO_ROOM)

    def test_all_units_there_may_be_and_nothing_put_in(self):
        start = [class_of(0), create(0, 0, BILLION), income(0, MILLION)]
        self.assertEqual(
            behind(start, give(0, MILLION, 1), classat(0), owed(0)),
            [[MILLION, 0], [BILLION, 0, 0], [MILLION, 0, 0, 0, MILLION, 0]])


class GiveRefused(unittest.TestCase):
    def test_no_class(self):
        start = [class_of(1), create(1, 0, 10), income(1, 10)]
        for c in NO_SUCH_CLASSES:
            self.assertEqual(last(*start, give(c, 1, 1)), NO_CLASS, c)

    def test_out_of_range(self):
        for r in (0, -1, -FAR):
            self.assertEqual(last(*RISEN, give(0, r, 1)), OUT_OF_RANGE, r)
        for price in (0, -1, MILLION + 1, -FAR, FAR):
            self.assertEqual(last(*RISEN, give(0, 1, price)), OUT_OF_RANGE, price)

    def test_edges(self):
        self.assertEqual(shown(*RISEN, give(0, 1, 1)), [0, 0])
        self.assertEqual(shown(*RISEN, give(0, 1, MILLION)), [0, 0])

    def test_less_is_open(self):
        for r in (2500000001, 3 * BILLION, FAR - 1, FAR):
            self.assertEqual(last(*RISEN, give(0, r, 1)), TOO_LITTLE, r)
        self.assertEqual(behind(RISEN, give(0, 2500000000, 1), give(0, 1, 1)), [[25, 0], [TOO_LITTLE]])

    def test_nothing_is_open(self):
        self.assertEqual(last(class_of(0), give(0, 1, 1)), TOO_LITTLE)
        self.assertEqual(last(class_of(0), income(0, 9), give(0, 1, 1)), TOO_LITTLE)
        self.assertEqual(last(class_of(0), create(0, 0, 9), give(0, 1, 1)), TOO_LITTLE)
        self.assertEqual(last(*RISEN, redeem(0, 0, 10), give(0, 1, 1)), TOO_LITTLE)

    def test_the_first_refusal_told_counts(self):
        full = [class_of(0), *[create(0, 4, 2) for time in range(50)], income(0, 100), mandate(0, 4, 1)]
        self.assertEqual(last(*full, give(1, 0, 0)), NO_CLASS)
        self.assertEqual(last(*full, give(4, FAR, 1)), NO_CLASS)
        self.assertEqual(last(*full, give(0, FAR, 0)), OUT_OF_RANGE)
        self.assertEqual(last(*full, give(0, BILLION, MILLION + 1)), OUT_OF_RANGE)
        self.assertEqual(last(*full, give(0, BILLION + 1, 1)), TOO_LITTLE)
        self.assertEqual(last(*full, give(0, BILLION, 1)), NO_ROOM)


class Quote(unittest.TestCase):
    def test_is_the_part_of_the_giving_out_behind_it(self):
        start = [rate(0, 123456), rate(1, 654321), holder(1, 1), holder(2, 1), *LOTS, create(0, 2, 7), mandate(0, 1, 1)]
        for r in (1, 83333334, HALF, 777777777, BILLION, 1999999999, 2 * BILLION):
            found = behind(start, *[quote(0, r, h) for h in range(20)], give(0, r, 3), *[owed(h) for h in range(20)])
            for part, after in zip(found[:20], found[21:]):
                self.assertEqual(part, [after[3] + after[4], after[3], after[2]], r)
            self.assertEqual(found[20][0], sum(part[0] for part in found[:20]), r)

    def test_whole_list(self):
        self.assertEqual(
            whole(rate(3, 300000), holder(0, 3), *RISEN, quote(0, BILLION, 0), quote(0, 2500000000, 0)),
            told([0, 0, 0, 0, 10, [10, 0, 3], [25, 0, 7]]))

    def test_a_rate_of_nothing(self):
        self.assertEqual(behind(LOTS, quote(0, 0, 0), quote(0, 0, 1), quote(0, 0, 19)), [[0] * 3] * 3)
        self.assertEqual(whole(class_of(0), quote(0, 0, 0), quote(0, 1, 0)), told([0, [0, 0, 0], -1]))

    def test_no_class(self):
        start = [class_of(1), create(1, 0, 10), income(1, 10)]
        for c in NO_SUCH_CLASSES:
            self.assertEqual(last(*start, quote(c, 0, 0)), NO_CLASS, c)

    def test_out_of_range(self):
        for r in (-1, 2500000001, -FAR, FAR):
            self.assertEqual(last(*RISEN, quote(0, r, 0)), OUT_OF_RANGE, r)
        for h in NO_HOLDERS:
            self.assertEqual(last(*RISEN, quote(0, 1, h)), OUT_OF_RANGE, h)
        self.assertEqual(shown(*RISEN, quote(0, 2500000000, 19)), [0, 0, 0])

    def test_no_class_is_told_first(self):
        self.assertEqual(last(*RISEN, quote(1, -1, 20)), NO_CLASS)
        self.assertEqual(last(*RISEN, quote(-1, FAR, 0)), NO_CLASS)

    def test_changes_nothing(self):
        self.assertEqual(seen(*AGAIN, quote(0, BILLION, 0)), seen(*AGAIN))


class Pay(unittest.TestCase):
    def test_once_and_again(self):
        self.assertEqual(
            whole(*RISEN, give(0, BILLION, 1), owed(0), pay(0), owed(0), pay(0), owed(0)),
            told([0, 0, 10, [10, 0], [10, 0, 0, 0, 10, 0], 10, [0, 10, 0, 0, 10, 0], 0, [0, 10, 0, 0, 10, 0]]))

    def test_what_is_paid_out_adds_up(self):
        self.assertEqual(
            behind(RISEN, give(0, BILLION, 1), pay(0), give(0, HALF, 1), owed(0), pay(0), owed(0)),
            [[10, 0], [10], [5, 0], [5, 10, 0, 0, 15, 0], [5], [0, 15, 0, 0, 15, 0]])

    def test_of_all_classes_and_one_holder(self):
        start = [
            *RISEN, create(0, 1, 2), class_of(1), create(1, 0, 3), income(1, 3), give(0, BILLION, 1),
            give(1, BILLION, 1)]
        self.assertEqual(
            behind(start, pay(0), owed(0), owed(1), pay(19), pay(1)),
            [[13], [0, 13, 0, 0, 13, 0], [2, 0, 0, 2, 0, 0], [0], [2]])

    def test_leaves_the_classes_alone(self):
        start = [*RISEN, give(0, BILLION, 1)]
        shows = [classat(0), sums(0), holding(0, 0), lot(0, 0, 0)]
        self.assertEqual(behind([*start, pay(0)], *shows), behind(start, *shows))

    def test_out_of_range(self):
        for h in NO_HOLDERS:
            self.assertEqual(whole(pay(h)), [1, OUT_OF_RANGE], h)
        self.assertEqual(whole(pay(0), pay(19)), told([0, 0]))


if __name__ == "__main__":
    unittest.main()

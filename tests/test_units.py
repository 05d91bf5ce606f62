"""create, redeem, transfer: what they answer, how they round, how lots go."""

import unittest

from tests.helper import (
    BILLION, FAR, MILLION, NO_CLASS, NO_ROOM, OUT_OF_RANGE, TOO_LITTLE,
    NO_HOLDERS, NO_SUCH_CLASSES, behind, class_of, classat, create, holding, income, last, lot, lots, redeem,
    shown, sums, told, transfer, whole,
)

# One unit on which a million coins have risen: each unit more costs a million.
DEAR = [class_of(0), create(0, 0, 1), income(0, MILLION)]


class Create(unittest.TestCase):
    def test_nothing_is_paid_while_nothing_has_risen(self):
        self.assertEqual(
            whole(class_of(0), create(0, 0, 1), create(0, 19, 5), create(0, 0, 9), income(0, 1)),
            told([0, 0, 0, 0, 15]))

    def test_what_is_paid_is_rounded_up(self):
        # Open is 3333333333 parts: 3.3, 6.6, 9.9 coins for 1, 2, 3 units.
        for units, paid in ((1, 4), (2, 7), (3, 10), (300, 1000)):
            self.assertEqual(last(class_of(0), create(0, 0, 3), income(0, 10), create(0, 1, units)), paid)
        # One part open a unit is a coin for a single unit.
        thin = [class_of(0), create(0, 0, 900000000), income(0, 1)]
        self.assertEqual(
            whole(*thin, classat(0), create(0, 1, 1)), told([0, 0, 900000000, [900000000, 1, 1], 1]))

    def test_what_comes_out_even_is_not_rounded(self):
        self.assertEqual(last(class_of(0), create(0, 0, 4), income(0, 8), create(0, 1, 3)), 6)

    def test_what_rounding_leaves_belongs_to_all_units(self):
        # 3 units, 10 coins; a 4th unit for 4 coins: 14 coins on 4 units, 3.5 a unit.
        calls = [class_of(0), create(0, 0, 3), income(0, 10), create(0, 1, 1)]
        self.assertEqual(
            behind(calls, classat(0), sums(0), holding(0, 1), lot(0, 1, 0)),
            [[4, 14, 3500000000], [10, 4, 0, 0, 0, 14], [1, 1, 3, 0], [1, 166666667, 3333333333]])
        self.assertEqual(last(*calls, create(0, 2, 2)), 7)

    def test_each_class_has_its_own_units(self):
        self.assertEqual(
            whole(class_of(0), class_of(1), create(0, 0, 5), create(1, 0, 2), income(1, 4),
                  create(0, 1, 7), create(1, 1, 7), income(0, 12), income(1, 9)),
            told([0, 0, 0, 0, 2, 0, 14, 12, 9]))

    def test_no_class(self):
        for c in NO_SUCH_CLASSES:
            self.assertEqual(last(class_of(1), create(c, 0, 1)), NO_CLASS, c)

    def test_out_of_range(self):
        for h in NO_HOLDERS:
            self.assertEqual(last(class_of(1), create(1, h, 1)), OUT_OF_RANGE, h)
        for units in (0, -1, BILLION + 1, -FAR, FAR):
            self.assertEqual(last(class_of(1), create(1, 0, units)), OUT_OF_RANGE, units)

    def test_the_most_units(self):
        self.assertEqual(
            whole(class_of(0), create(0, 19, BILLION), create(0, 0, 1), income(0, 1)),
            told([0, 0, -3, BILLION]))
        self.assertEqual(
            whole(class_of(0), create(0, 0, BILLION - 1), create(0, 1, 2), create(0, 1, 1), create(0, 2, 1),
                  redeem(0, 0, 1), create(0, 2, 2), create(0, 2, 1)),
            told([0, 0, -3, 0, -3, 0, -3, 0]))

    def test_the_most_units_are_counted_by_class(self):
        self.assertEqual(
            whole(class_of(0), class_of(1), create(0, 0, BILLION), create(1, 0, BILLION), create(1, 0, 1)),
            told([0, 0, 0, 0, -3]))

    def test_the_fullest_pot(self):
        self.assertEqual(whole(*DEAR, create(0, 1, 999)), told([0, 0, 1, 999 * MILLION]))
        self.assertEqual(whole(*DEAR, create(0, 1, 1000)), told([0, 0, 1, NO_ROOM]))
        full = [*DEAR, create(0, 1, 999)]
        self.assertEqual(last(*full, create(0, 1, 1)), NO_ROOM)
        self.assertEqual(shown(*full, create(0, 1, 1), classat(0)), [1000, BILLION, MILLION * BILLION])

    def test_a_pot_fuller_by_one_coin(self):
        # 999001 coins on one unit, and a thousand units more: 999001 x 1001 is 1000000001.
        start = [class_of(0), create(0, 0, 1), income(0, 999001)]
        self.assertEqual(last(*start, create(0, 1, 1000)), NO_ROOM)
        self.assertEqual(
            whole(*start, create(0, 1, 999), income(0, 999000), income(0, 1)),
            told([0, 0, 1, 999 * 999001, 1000, NO_ROOM]))

    def test_the_most_lots(self):
        fifty = [class_of(0), *[create(0, 4, 2) for time in range(50)]]
        self.assertEqual(whole(*fifty), told([0] * 51))
        self.assertEqual(
            whole(*fifty, create(0, 4, 1), create(0, 5, 1), redeem(0, 4, 1), create(0, 4, 1),
                  redeem(0, 4, 1), create(0, 4, 1), create(0, 4, 1)),
            told([0] * 51 + [-3, 0, 0, -3, 0, 0, -3]))

    def test_lots_are_counted_by_class(self):
        fifty = [create(0, 4, 2) for time in range(50)]
        self.assertEqual(
            whole(class_of(0), class_of(1), *fifty, create(1, 4, 1), create(0, 4, 1)),
            told([0] * 53 + [-3]))

    def test_the_first_refusal_told_counts(self):
        full = [class_of(0), create(0, 0, BILLION)]
        self.assertEqual(last(*full, create(1, 20, 0)), NO_CLASS)
        self.assertEqual(last(*full, create(4, 0, 1)), NO_CLASS)
        self.assertEqual(last(*full, create(0, 20, 1)), OUT_OF_RANGE)
        self.assertEqual(last(*full, create(0, 0, BILLION + 1)), OUT_OF_RANGE)


class Redeem(unittest.TestCase):
    def test_what_is_paid_is_rounded_down(self):
        # Open is 3333333333 parts.
        for units, paid in ((1, 3), (2, 6), (4, 13), (5, 16)):
            start = [class_of(0), create(0, 0, 6), income(0, 20)]
            self.assertEqual(whole(*start, redeem(0, 0, units)), told([0, 0, 6, paid]))

    def test_what_rounding_leaves_belongs_to_all_units(self):
        # 3 units, 10 coins; one goes with 3 coins: 7 coins on 2 units, 3.5 a unit.
        calls = [class_of(0), create(0, 0, 3), income(0, 10), redeem(0, 0, 1)]
        self.assertEqual(behind(calls, classat(0), sums(0)), [[2, 7, 3500000000], [10, 0, 3, 0, 0, 7]])
        self.assertEqual(whole(*calls, redeem(0, 0, 1), redeem(0, 0, 1)), told([0, 0, 3, 3, 3, 4]))

    def test_the_last_units_are_paid_all_that_is_in_the_pot(self):
        # 7 coins on 3 units are 2333333333 parts a unit, 6.999999999 in all.
        start = [class_of(0), create(0, 0, 3), income(0, 7)]
        self.assertEqual(whole(*start, redeem(0, 0, 3)), told([0, 0, 3, 7]))
        self.assertEqual(
            behind([*start, redeem(0, 0, 3)], classat(0), sums(0), holding(0, 0)),
            [[0, 0, 0], [7, 0, 7, 0, 0, 0], [0, 0, 0, 0]])

    def test_the_last_units_of_a_holder_are_not_the_last_in_issue(self):
        start = [class_of(0), create(0, 0, 3), create(0, 1, 3), income(0, 7)]
        self.assertEqual(
            whole(*start, redeem(0, 0, 3), redeem(0, 1, 3)), told([0, 0, 0, 6, 3, 4]))

    def test_nothing_is_open_behind_the_last_units(self):
        start = [class_of(0), create(0, 0, 3), income(0, 7), redeem(0, 0, 3)]
        self.assertEqual(
            whole(*start, create(0, 1, 5), redeem(0, 1, 1), income(0, 8), create(0, 2, 1), redeem(0, 1, 1)),
            told([0, 0, 3, 7, 0, 0, 4, 2, 2]))
        self.assertEqual(
            behind([*start, create(0, 1, 5), income(0, 5)], classat(0), lot(0, 1, 0)),
            [[5, 5, BILLION], [5, BILLION, 0]])

    def test_units_are_taken_first_in_first_out(self):
        start = [class_of(0), create(0, 0, 2), income(0, 2), create(0, 0, 3), income(0, 5), create(0, 0, 4)]
        self.assertEqual(lots(start, 0, 0), [(2, 0), (3, BILLION), (4, 2 * BILLION)])
        for units, left in (
                (1, [(1, 0), (3, BILLION), (4, 2 * BILLION)]),
                (2, [(3, BILLION), (4, 2 * BILLION)]),
                (3, [(2, BILLION), (4, 2 * BILLION)]),
                (5, [(4, 2 * BILLION)]),
                (8, [(1, 2 * BILLION)]),
                (9, [])):
            self.assertEqual(lots([*start, redeem(0, 0, units)], 0, 0), left)
            self.assertEqual(last(*start, redeem(0, 0, units)), 2 * units)

    def test_no_class(self):
        for c in NO_SUCH_CLASSES:
            self.assertEqual(last(class_of(1), create(1, 0, 5), redeem(c, 0, 1)), NO_CLASS, c)

    def test_out_of_range(self):
        start = [class_of(1), create(1, 0, 5), create(1, 19, 5)]
        for h in NO_HOLDERS:
            self.assertEqual(last(*start, redeem(1, h, 1)), OUT_OF_RANGE, h)
        for units in (0, -1, BILLION + 1, -FAR, FAR):
            self.assertEqual(last(*start, redeem(1, 0, units)), OUT_OF_RANGE, units)

    def test_fewer_units(self):
        start = [class_of(1), class_of(2), create(1, 0, 5), create(1, 0, 3), create(1, 1, 9), create(2, 0, 9)]
        self.assertEqual(
            whole(*start, redeem(1, 0, 9), redeem(1, 2, 1), redeem(1, 0, 8), redeem(1, 0, 1), redeem(1, 1, BILLION)),
            told([0] * 6 + [-5, -5, 0, -5, -5]))

    def test_all_units_there_may_be(self):
        self.assertEqual(
            whole(class_of(0), create(0, 0, BILLION), income(0, 1), redeem(0, 0, BILLION), redeem(0, 0, 1)),
            told([0, 0, BILLION, 1, -5]))

    def test_the_first_refusal_told_counts(self):
        start = [class_of(0), create(0, 0, 5)]
        self.assertEqual(last(*start, redeem(1, -1, 0)), NO_CLASS)
        self.assertEqual(last(*start, redeem(1, 0, 6)), NO_CLASS)
        self.assertEqual(last(*start, redeem(0, 20, 6)), OUT_OF_RANGE)
        self.assertEqual(last(*start, redeem(0, 0, BILLION + 1)), OUT_OF_RANGE)


class Transfer(unittest.TestCase):
    def test_answers_the_units_left(self):
        start = [class_of(0), create(0, 0, 5), create(0, 0, 7), create(0, 1, 9)]
        self.assertEqual(
            whole(*start, transfer(0, 0, 1, 2), transfer(0, 0, 1, 3), transfer(0, 0, 19, 7), transfer(0, 1, 0, 14)),
            told([0, 0, 0, 0, 10, 7, 0, 0]))

    def test_the_units_are_the_others_then(self):
        start = [class_of(0), create(0, 0, 5), income(0, 10), transfer(0, 0, 1, 3)]
        self.assertEqual(
            whole(*start, redeem(0, 0, 3), redeem(0, 1, 4), redeem(0, 1, 3), redeem(0, 0, 2)),
            told([0, 0, 5, 2, -5, -5, 6, 4]))

    def test_lots_stand_behind_the_others_in_their_order(self):
        start = [
            class_of(0), create(0, 0, 2), income(0, 2), create(0, 1, 3), create(0, 0, 5), income(0, 10),
            create(0, 0, 4)]
        after = [*start, transfer(0, 0, 1, 6)]
        self.assertEqual(lots(after, 0, 1), [(3, BILLION), (2, 0), (4, BILLION)])
        self.assertEqual(lots(after, 0, 0), [(1, BILLION), (4, 2 * BILLION)])
        after = [*start, transfer(0, 0, 1, 7)]
        self.assertEqual(lots(after, 0, 1), [(3, BILLION), (2, 0), (5, BILLION)])
        self.assertEqual(lots(after, 0, 0), [(4, 2 * BILLION)])

    def test_a_lot_in_part_keeps_its_entry_and_its_place(self):
        start = [class_of(0), create(0, 0, 5), income(0, 5), create(0, 0, 5)]
        after = [*start, transfer(0, 0, 1, 2)]
        self.assertEqual(lots(after, 0, 0), [(3, 0), (5, BILLION)])
        self.assertEqual(lots(after, 0, 1), [(2, 0)])
        after = [*start, transfer(0, 0, 1, 2), transfer(0, 1, 0, 1)]
        self.assertEqual(lots(after, 0, 0), [(3, 0), (5, BILLION), (1, 0)])
        self.assertEqual(lots(after, 0, 1), [(1, 0)])

    def test_coins_and_other_holders_stay_as_they_are(self):
        start = [class_of(0), create(0, 0, 3), create(0, 2, 4), income(0, 10)]
        shows = [classat(0), sums(0), holding(0, 2), lot(0, 2, 0)]
        self.assertEqual(behind(start, *shows), behind([*start, transfer(0, 0, 1, 2)], *shows))

    def test_no_class(self):
        for c in NO_SUCH_CLASSES:
            self.assertEqual(last(class_of(1), create(1, 0, 5), transfer(c, 0, 1, 1)), NO_CLASS, c)

    def test_out_of_range(self):
        start = [class_of(1), create(1, 0, 5)]
        for h in NO_HOLDERS:
            self.assertEqual(last(*start, transfer(1, h, 0, 1)), OUT_OF_RANGE, h)
            self.assertEqual(last(*start, transfer(1, 0, h, 1)), OUT_OF_RANGE, h)
        for units in (0, -1, BILLION + 1, -FAR, FAR):
            self.assertEqual(last(*start, transfer(1, 0, 1, units)), OUT_OF_RANGE, units)

    def test_to_oneself(self):
        start = [class_of(1), create(1, 0, 5), create(1, 19, 5)]
        for h in (0, 1, 19):
            self.assertEqual(last(*start, transfer(1, h, h, 1)), OUT_OF_RANGE, h)

    def test_fewer_units(self):
        start = [class_of(0), create(0, 0, 5), create(0, 1, 9)]
        self.assertEqual(
            whole(*start, transfer(0, 0, 1, 6), transfer(0, 2, 1, 1), transfer(0, 0, 1, 5), transfer(0, 0, 1, 1)),
            told([0, 0, 0, -5, -5, 0, -5]))

    def test_all_units_there_may_be(self):
        self.assertEqual(
            whole(class_of(0), create(0, 0, BILLION), transfer(0, 0, 19, BILLION), redeem(0, 19, BILLION)),
            told([0, 0, 0, 0]))

    def test_the_most_lots(self):
        most = [class_of(0), *[create(0, 4, 2) for time in range(49)], create(0, 0, 3), create(0, 0, 3)]
        self.assertEqual(last(*most, transfer(0, 0, 4, 3)), 3)
        self.assertEqual(last(*most, transfer(0, 0, 4, 1)), 5)
        self.assertEqual(last(*most, transfer(0, 0, 4, 4)), NO_ROOM)
        self.assertEqual(last(*most, transfer(0, 0, 4, 6)), NO_ROOM)
        self.assertEqual(
            whole(*most, transfer(0, 0, 4, 1), transfer(0, 0, 4, 1), transfer(0, 4, 0, 98), transfer(0, 0, 4, 1)),
            told([0] * 52 + [5, NO_ROOM, NO_ROOM, NO_ROOM]))

    def test_fifty_lots_at_once(self):
        fifty = [class_of(0), *[create(0, 4, 2) for time in range(50)]]
        self.assertEqual(last(*fifty, transfer(0, 4, 5, 100)), 0)
        self.assertEqual(last(*fifty, create(0, 5, 1), transfer(0, 4, 5, 98)), 2)
        self.assertEqual(last(*fifty, create(0, 5, 1), transfer(0, 4, 5, 99)), NO_ROOM)

    def test_the_first_refusal_told_counts(self):
        fifty = [class_of(0), *[create(0, 4, 2) for time in range(50)], create(0, 0, 3)]
        self.assertEqual(last(*fifty, transfer(1, 0, 0, 0)), NO_CLASS)
        self.assertEqual(last(*fifty, transfer(1, 0, 4, 4)), NO_CLASS)
        self.assertEqual(last(*fifty, transfer(0, 4, 4, 101)), OUT_OF_RANGE)
        self.assertEqual(last(*fifty, transfer(0, 0, 20, 4)), OUT_OF_RANGE)
        self.assertEqual(last(*fifty, transfer(0, 0, 4, BILLION + 1)), OUT_OF_RANGE)
        self.assertEqual(last(*fifty, transfer(0, 0, 4, 4)), TOO_LITTLE)
        self.assertEqual(last(*fifty, transfer(0, 0, 4, 3)), NO_ROOM)


if __name__ == "__main__":
    unittest.main()

"""answers itself: what it takes, what it gives back, what it leaves alone."""

import builtins
import contextlib
import inspect
import io
import random
import sys
import unittest
from unittest import mock

import fundincome.classes
from fundincome.classes import answers
from tests.helper import (
    BILLION, FAR, MILLION, accrue, class_of, clear, create, holder, house_after, income, joined, mandate,
    rate, redeem, stop, sums, transfer, whole,
)

ALL = [
    rate(1, 300000), holder(2, 1), class_of(0), mandate(0, 2, 1), create(0, 2, 60), income(0, 10),
    create(0, 3, 5), transfer(0, 2, 3, 20), redeem(0, 3, 7), accrue(0, 10, 3), stop(0), stop(1), clear(),
    stop(0),
]
ALL_ANSWERED = [1, 0, 1, 0, 1, 0, 1, 0, 1, 0, 1, 60, 1, 1, 1, 40, 1, 1, 1, 0, 1, 0, 1, -6, 1, 0, 1, -6]


def random_call(source):
    c = source.choice((0, 0, 0, 1, 2, 4))
    h = source.randrange(-1, 21) if source.randrange(10) == 0 else source.randrange(4)
    units = source.choice((0, 1, 2, 3, 7, 50, 1000, 999999, BILLION, FAR))
    coins = source.choice((1, 2, 10, 999, MILLION))
    return source.choice((
        create(c, h, units), create(c, h, units), redeem(c, h, units), redeem(c, h, units),
        transfer(c, h, source.randrange(4), units), income(c, coins), income(c, coins),
        class_of(c), mandate(c, h, source.randrange(3)), accrue(c, coins, source.randrange(9)),
        stop(source.randrange(5)), rate(source.randrange(5), coins), holder(h, source.randrange(5))))


class Interface(unittest.TestCase):
    def test_every_call_in_one_list(self):
        self.assertEqual(answers(joined(ALL)), ALL_ANSWERED)

    def test_the_name_of_the_argument(self):
        self.assertEqual(list(inspect.signature(fundincome.classes.answers).parameters), ["calls"])
        self.assertEqual(answers(calls=[0]), [1, 0])

    def test_gives_back_a_list_of_whole_numbers(self):
        found = answers(joined(ALL))
        self.assertIs(type(found), list)
        self.assertEqual({type(number) for number in found}, {int})

    def test_the_list_handed_in_is_the_same_then(self):
        calls = joined(ALL)
        answers(calls)
        self.assertEqual(calls, joined(ALL))

    def test_the_list_handed_in_is_not_changed_for_a_while(self):
        class Locked(list):
            def refuse(self, *rest):
                raise AssertionError("the list is changed")
            append = extend = insert = pop = remove = reverse = sort = clear = refuse
            __setitem__ = __delitem__ = __iadd__ = __imul__ = refuse

        self.assertEqual(answers(Locked(joined(ALL))), ALL_ANSWERED)

    def test_asking_twice_gives_the_same_twice(self):
        calls = joined(ALL[:-2])
        first = answers(calls)
        first_again = list(first)
        first.append(7)
        self.assertEqual(answers(calls), first_again)
        self.assertEqual(answers(calls), first_again)

    def test_begins_anew_each_time(self):
        whole(class_of(0), create(0, 0, 5), rate(0, 9), accrue(0, 1, 1))
        self.assertEqual(whole(redeem(0, 0, 1), rate(0, 0), stop(0)), [1, -2, 1, 0, 1, -6])

    def test_a_list_may_end_with_any_call(self):
        for end in range(1, len(ALL) + 1):
            self.assertEqual(answers(joined(ALL[:end])), ALL_ANSWERED[:2 * end])

    def test_prints_reads_and_imports_nothing(self):
        def refuse(*rest, **more):
            raise AssertionError("not asked for")

        shown = io.StringIO()
        with contextlib.redirect_stdout(shown), contextlib.redirect_stderr(shown), \
                mock.patch.object(builtins, "__import__", refuse), mock.patch.object(builtins, "open", refuse), \
                mock.patch.object(builtins, "input", refuse):
            found = answers(joined(ALL))
        self.assertEqual((found, shown.getvalue()), (ALL_ANSWERED, ""))

    def test_the_longest_list_needs_no_depth(self):
        calls = joined([class_of(0), *[create(0, place % 20, 1) for place in range(399)]])
        depth = len(inspect.stack(0))
        before = sys.getrecursionlimit()
        sys.setrecursionlimit(depth + 40)
        try:
            found = answers(calls)
        finally:
            sys.setrecursionlimit(before)
        self.assertEqual(found, [1, 0] * 400)

    def test_two_thousand_numbers(self):
        calls = joined([class_of(0), create(0, 0, 8), create(0, 1, 9), redeem(0, 1, 1), transfer(0, 0, 2, 3),
                        *[transfer(0, 2, 1, 3), transfer(0, 1, 2, 8), transfer(0, 2, 1, 5)] * 131, stop(0)])
        self.assertLessEqual(len(calls), 2000)
        self.assertEqual(answers(calls)[:16], [1, 0, 1, 0, 1, 0, 1, 0, 1, 5, 1, 0, 1, 3, 1, 3])
        self.assertEqual(len(answers(calls)), 2 * 399)


class Holds(unittest.TestCase):
    """What must hold however the calls come."""

    def test_of_many_lists(self):
        source = random.Random(20)
        for time in range(150):
            calls = [class_of(0), create(0, 0, 7), *[random_call(source) for place in range(60)]]
            house = house_after(*calls)
            for c, fund in house.classes.items():
                received, bought, redeemed, paid, placed, pot = sums(house, c)
                self.assertEqual(received + bought - redeemed, pot)
                self.assertEqual((paid, placed), (0, 0))
                units = sum(lot.units for lots in fund.lots for lot in lots)
                self.assertLessEqual(max(units, pot), BILLION)
                self.assertLessEqual(max(len(lots) for lots in fund.lots), 50)
                open_parts = fund.risen - fund.given
                if units == 0:
                    self.assertEqual((pot, open_parts), (0, 0))
                else:
                    self.assertEqual(pot * BILLION // units, open_parts)
                for lots in fund.lots:
                    for lot in lots:
                        self.assertGreater(lot.units, 0)
                        self.assertLessEqual(lot.entry, fund.risen)


if __name__ == "__main__":
    unittest.main()

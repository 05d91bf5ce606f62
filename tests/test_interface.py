"""answers itself: what it takes, what it gives back, what it leaves alone."""

import builtins
import contextlib
import inspect
import io
import random
import sys
import unittest
from unittest import mock

import fundincome.classes
from fundincome.classes import answers
from tests.helper import (
    BILLION, FAR, HALF, MILLION, accrualat, accrue, behind, class_of, classat, clear, counts, create, give, holder,
    holding, income, joined, lot, mandate, owed, parted, pay, quote, rate, redeem, stop, sums, tick, told, transfer,
    whole,
)

ALL = [
    rate(1, 300000), holder(2, 1), class_of(0), mandate(0, 2, 1), create(0, 2, 60), income(0, 10),
    create(0, 3, 5), transfer(0, 2, 3, 20), redeem(0, 3, 7), accrue(0, 10, 3), tick(2), stop(0), stop(1),
    quote(0, 200000000, 2), give(0, 200000000, 2), pay(3), classat(0), sums(0), holding(0, 2), lot(0, 2, 1),
    owed(2), accrualat(0), counts(), clear(), stop(0), counts(),
]
ALL_TOLD = [
    0, 0, 0, 0, 0, 60, 1, 40, 1, 0, 2, 6, -6, [8, 0, 2], [11, 2], 3, [60, 6, 100000000], [16, 2, 1, 11, 5, 6],
    [42, 2, 4, 1], [2, 24137932, 75862068], [1, 0, 2, 0, 8, 1], [0, 10, 3, 2, 6, 1], [2, 1, 0], 0, -6, [0, 0, 0],
]
ALL_ANSWERED = told(ALL_TOLD)


def random_call(source, calls):
    c = source.choice((0, 0, 0, 1, 2, 4))
    h = source.randrange(-1, 21) if source.randrange(10) == 0 else source.randrange(4)
    units = source.choice((0, 1, 2, 3, 7, 50, 1000, 999999, BILLION, FAR))
    coins = source.choice((1, 2, 10, 999, MILLION))
    # Most of what is given out must be open to begin with.
    reached = behind(calls, classat(0))[0][-1]
    r = source.choice((1, HALF, reached, reached // 2, reached // 3 + 1, reached + 1))
    return source.choice((
        create(c, h, units), create(c, h, units), redeem(c, h, units), redeem(c, h, units),
        transfer(c, h, source.randrange(4), units), income(c, coins), income(c, coins),
        class_of(c), mandate(c, h, source.randrange(3)), mandate(0, h, 1), accrue(c, coins, source.randrange(9)),
        stop(source.randrange(5)), rate(source.randrange(5), coins), holder(h, source.randrange(5)),
        tick(source.choice((0, 1, 2, 5))), tick(1), give(c, r, source.choice((1, 2, 30))), give(0, r, 1), pay(h)))


class Interface(unittest.TestCase):
    def test_every_call_in_one_list(self):
        self.assertEqual(answers(joined(ALL)), ALL_ANSWERED)

    def test_the_name_of_the_argument(self):
        self.assertEqual(list(inspect.signature(fundincome.classes.answers).parameters), ["calls"])
        self.assertEqual(answers(calls=[0]), [1, 0])

    def test_gives_back_a_list_of_whole_numbers(self):
        found = answers(joined(ALL))
        self.assertIs(type(found), list)
        self.assertEqual({type(number) for number in found}, {int})

    def test_the_list_handed_in_is_the_same_then(self):
        calls = joined(ALL)
        answers(calls)
        self.assertEqual(calls, joined(ALL))

    def test_the_list_handed_in_is_not_changed_for_a_while(self):
        class Locked(list):
            def refuse(self, *rest):
                raise AssertionError("the list is changed")
            append = extend = insert = pop = remove = reverse = sort = clear = refuse
            __setitem__ = __delitem__ = __iadd__ = __imul__ = refuse

        self.assertEqual(answers(Locked(joined(ALL))), ALL_ANSWERED)

    def test_asking_twice_gives_the_same_twice(self):
        calls = joined(ALL[:-2])
        first = answers(calls)
        first_again = list(first)
        first.append(7)
        self.assertEqual(answers(calls), first_again)
        self.assertEqual(answers(calls), first_again)

    def test_begins_anew_each_time(self):
        whole(class_of(0), income(0, 9), create(0, 0, 5), rate(0, 9), accrue(0, 5, 1), tick(1), give(0, BILLION, 1))
        self.assertEqual(
            whole(redeem(0, 0, 1), rate(0, 0), stop(0), counts(), owed(0), tick(1)),
            told([-2, 0, -6, [0, 0, 0], [0] * 6, 1]))

    def test_a_list_may_end_with_any_call(self):
        for end in range(1, len(ALL) + 1):
            self.assertEqual(answers(joined(ALL[:end])), told(ALL_TOLD[:end]))

    def test_prints_reads_and_imports_nothing(self):
        def refuse(*rest, **more):
            raise AssertionError("not asked for")

        shown = io.StringIO()
        with contextlib.redirect_stdout(shown), contextlib.redirect_stderr(shown), \
                mock.patch.object(builtins, "__import__", refuse), mock.patch.object(builtins, "open", refuse), \
                mock.patch.object(builtins, "input", refuse):
            found = answers(joined(ALL))
        self.assertEqual((found, shown.getvalue()), (ALL_ANSWERED, ""))

    def test_the_longest_list_needs_no_depth(self):
        calls = joined([class_of(0), *[create(0, place % 20, 1) for place in range(399)]])
        depth = len(inspect.stack(0))
        before = sys.getrecursionlimit()
        sys.setrecursionlimit(depth + 40)
        try:
            found = answers(calls)
        finally:
            sys.setrecursionlimit(before)
        self.assertEqual(found, [1, 0] * 400)

    def test_four_hundred_calls_and_two_thousand_numbers(self):
        calls = transfer(0, 0, 1, 1) * 400
        self.assertEqual(len(calls), 2000)
        self.assertEqual(answers(calls), [1, -2] * 400)
        calls = joined([class_of(0), create(0, 0, 8), create(0, 1, 9), redeem(0, 1, 1), transfer(0, 0, 2, 3),
                        *[transfer(0, 2, 1, 3), transfer(0, 1, 2, 8), transfer(0, 2, 1, 5)] * 131, counts(), stop(0)])
        self.assertEqual(len(calls), 1987)
        found = parted(answers(calls))
        self.assertEqual((len(found), found[:8]), (400, [[0], [0], [0], [0], [5], [0], [3], [3]]))
        self.assertEqual(found[-2:], [[0, 0, 0], [-6]])

    def test_four_hundred_calls_with_the_longest_answers(self):
        start = [class_of(0), create(0, 0, 10), create(0, 1, 30), accrue(0, 1000, 1000)]
        day = [tick(1), income(0, 39), quote(0, BILLION, 1), give(0, BILLION, 1), sums(0), owed(1)]
        calls = [*start, *day * 66]
        self.assertEqual(len(calls), 400)
        due = [0, 0, 0, 0]
        for n in range(1, 67):
            due += [n, 40, [30, 0, 0], [40, 0], [40 * n, 0, 0, 40 * n, 0, 0], [30 * n, 0, 0, 0, 30 * n, 0]]
        self.assertEqual(whole(*calls), told(due))


class Holds(unittest.TestCase):
    """What must hold however the calls come."""

    def check_class(self, calls, c):
        found = behind(calls, classat(c), sums(c), *[holding(c, h) for h in range(20)])
        units, pot, reached = found[0]
        received, bought, redeemed, paid, placed, pot_again = found[1]
        self.assertEqual(received + bought - redeemed - paid, pot)
        self.assertEqual(pot_again, pot)
        self.assertEqual(sum(one[0] for one in found[2:]), units)
        self.assertLessEqual(max(units, pot), BILLION)
        self.assertLessEqual(max(one[1] for one in found[2:]), 50)
        self.assertLessEqual(sum(one[2] for one in found[2:]), pot)
        self.assertEqual(reached, pot * BILLION // units if units else 0)
        if units == 0:
            self.assertEqual(pot, 0)
        for h, one in enumerate(found[2:]):
            parts = behind(calls, *[lot(c, h, i) for i in range(one[1])])
            self.assertEqual(sum(part[0] for part in parts), one[0])
            for part in parts:
                self.assertGreater(part[0], 0)
                self.assertGreaterEqual(part[1], 0)
                self.assertLessEqual(part[2], reached)
        return paid, placed

    def check(self, calls):
        there = [c for c in range(4) if behind(calls, classat(c)) != [[-2]]]
        given = [self.check_class(calls, c) for c in there]
        holders = behind(calls, *[owed(h) for h in range(20)])
        self.assertEqual(sum(paid for paid, _ in given), sum(one[3] + one[4] for one in holders))
        self.assertEqual(
            sum(paid - placed for paid, placed in given), sum(one[0] + one[1] + one[2] for one in holders))
        self.assertGreaterEqual(min(number for one in holders for number in one), 0)
        day, many, unclaimed = behind(calls, counts())[0]
        told_coins = sum(one[4] for one in behind(calls, *[accrualat(place) for place in range(many)]))
        self.assertGreaterEqual(unclaimed + sum(behind(calls, sums(c))[0][0] for c in there), told_coins)

    def test_of_many_lists(self):
        source = random.Random(20)
        for time in range(30):
            calls = [class_of(0), create(0, 0, 7), create(0, 1, 50), income(0, 999), mandate(0, 1, 1)]
            for place in range(70):
                calls.append(random_call(source, calls))
            self.check(calls)


if __name__ == "__main__":
    unittest.main()

"""Calls written by name, and the state behind them, for the tests."""

from fundincome.classes import answers, done, known_calls
from fundincome.house import House

FAR = 10 ** 18
BILLION = 10 ** 9
MILLION = 10 ** 6

OUT_OF_RANGE, NO_CLASS, NO_ROOM, THERE_ALREADY, TOO_FEW, NOT_THERE = -1, -2, -3, -4, -5, -6


def clear():
    return [0]


def rate(kind, millionths):
    return [1, kind, millionths]


def holder(h, kind):
    return [2, h, kind]


def class_of(c):
    return [3, c]


def mandate(c, h, on):
    return [4, c, h, on]


def create(c, h, units):
    return [5, c, h, units]


def redeem(c, h, units):
    return [6, c, h, units]


def transfer(c, origin, to, units):
    return [7, c, origin, to, units]


def income(c, coins):
    return [8, c, coins]


def accrue(c, coins, days):
    return [9, c, coins, days]


def stop(place):
    return [10, place]


def joined(calls):
    return [number for call in calls for number in call]


def whole(*calls):
    """The whole list that is given back for these calls."""
    return answers(joined(calls))


def told(numbers):
    """The whole list that is due where each call answers one number."""
    return joined([1, number] for number in numbers)


def last(*calls):
    """The one number that the last of these calls answers."""
    found = whole(*calls)
    assert len(found) == 2 * len(calls), found
    return found[-1]


def plain(value):
    """A value with all that's in it as lists, dicts and numbers, to compare."""
    if isinstance(value, dict):
        return {key: plain(part) for key, part in value.items()}
    if isinstance(value, (list, tuple)):
        return [plain(part) for part in value]
    if hasattr(value, "__dict__"):
        return plain(vars(value))
    return value


def house_after(*calls):
    """The house itself, for what no call shows yet."""
    house = House()
    known = known_calls()
    for call in calls:
        done(house, known[call[0]][1], call[1:])
    return house


def state(*calls):
    return plain(house_after(*calls))


def lots(house, c, h):
    return [(lot.units, lot.entry) for lot in house.classes[c].lots[h]]


def sums(house, c):
    fund = house.classes[c]
    return [fund.received, fund.bought, fund.redeemed, fund.paid, fund.placed, fund.pot]

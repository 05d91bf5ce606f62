"""The calls that bring income: income, accrue, stop, tick."""

from fundincome.limits import MOST_ACCRUALS, MOST_DAYS, MOST_INCOME, MOST_POT
from fundincome.limits import NO_CLASS, NO_ROOM, NOT_THERE, OUT_OF_RANGE
from fundincome.limits import within


def has_room_for_coins(fund, coins):
    return fund.pot + coins <= MOST_POT


def bring_income(house, c, coins):
    if c not in house.classes:
        return [NO_CLASS]
    if not within(coins, 1, MOST_INCOME):
        return [OUT_OF_RANGE]
    fund = house.classes[c]
    if not has_room_for_coins(fund, coins):
        return [NO_ROOM]
    house.take_income(c, coins)
    return [fund.issued()]


def start_accrual(house, c, coins, days):
    if c not in house.classes:
        return [NO_CLASS]
    if not within(coins, 1, MOST_INCOME) or not within(days, 1, MOST_DAYS):
        return [OUT_OF_RANGE]
    place = len(house.accruals)
    if place >= MOST_ACCRUALS:
        return [NO_ROOM]
    house.add_accrual(c, coins, days)
    return [place]


def stop_accrual(house, place):
    if not within(place, 0, len(house.accruals) - 1):
        return [NOT_THERE]
    accrual = house.accruals[place]
    accrual.stopped = 1
    return [accrual.told]


def has_room_for_days(house, n):
    for c in house.classes:
        if not has_room_for_coins(house.classes[c], house.coming_in(c, n)):
            return False
    return True


def tick_days(house, n):
    if not within(n, 1, MOST_DAYS):
        return [OUT_OF_RANGE]
    # Of all classes ahead of the first change: one without room refuses the days of all.
    if not has_room_for_days(house, n):
        return [NO_ROOM]
    house.pass_days(n)
    return [house.day]

"""The calls that give income out: give, quote, pay."""

from fundincome.gifts import coins_of, gifts_of, new_units_of
from fundincome.limits import HOLDERS, MOST_GIVEN, MOST_LOTS, MOST_PRICE, MOST_UNITS
from fundincome.limits import NO_CLASS, NO_ROOM, OUT_OF_RANGE, TOO_LITTLE
from fundincome.limits import is_holder, within
from fundincome.portions import portion_of


def has_room_for_gifts(fund, gifts):
    # The pot needs no look: what a holder puts into it is never more than what they get out of it.
    if fund.issued() + new_units_of(gifts) > MOST_UNITS:
        return False
    for h in range(HOLDERS):
        if gifts[h].new_units > 0 and len(fund.lots[h]) + 1 > MOST_LOTS:
            return False
    return True


def give_income(house, c, r, price):
    if c not in house.classes:
        return [NO_CLASS]
    if not within(r, 1, MOST_GIVEN) or not within(price, 1, MOST_PRICE):
        return [OUT_OF_RANGE]
    fund = house.classes[c]
    if fund.open_parts() < r:
        return [TOO_LITTLE]
    gifts = gifts_of(house, fund, r, price)
    if not has_room_for_gifts(fund, gifts):
        return [NO_ROOM]
    house.spread_gifts(c, r, gifts)
    return [coins_of(gifts), new_units_of(gifts)]


def quote_portion(house, c, r, h):
    if c not in house.classes:
        return [NO_CLASS]
    fund = house.classes[c]
    if not within(r, 0, fund.open_parts()) or not is_holder(h):
        return [OUT_OF_RANGE]
    portion = portion_of(fund, h, r, house.rate_of(h))
    return [portion.coins, portion.capital, portion.tax]


def pay_holder(house, h):
    if not is_holder(h):
        return [OUT_OF_RANGE]
    return [house.holders[h].pay()]

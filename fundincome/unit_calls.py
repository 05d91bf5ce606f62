"""The calls that make, end and move units: create, redeem, transfer."""

from fundincome.limits import MOST_LOTS, MOST_POT, MOST_UNITS
from fundincome.limits import NO_CLASS, NO_ROOM, OUT_OF_RANGE, TOO_LITTLE
from fundincome.limits import is_holder, within
from fundincome.lots import first_lots


def are_units(units):
    return within(units, 1, MOST_UNITS)


def has_room_for_new(fund, h, units):
    if fund.issued() + units > MOST_UNITS:
        return False
    if fund.pot + fund.cost_of_risen(units) > MOST_POT:
        return False
    return len(fund.lots[h]) + 1 <= MOST_LOTS


def has_room_for_moved(fund, origin, to, units):
    moved = first_lots(fund.lots[origin], units)
    return len(fund.lots[to]) + len(moved) <= MOST_LOTS


def create_units(house, c, h, units):
    if c not in house.classes:
        return [NO_CLASS]
    if not is_holder(h) or not are_units(units):
        return [OUT_OF_RANGE]
    fund = house.classes[c]
    if not has_room_for_new(fund, h, units):
        return [NO_ROOM]
    return [fund.create(h, units)]


def redeem_units(house, c, h, units):
    if c not in house.classes:
        return [NO_CLASS]
    if not is_holder(h) or not are_units(units):
        return [OUT_OF_RANGE]
    fund = house.classes[c]
    if fund.units_of(h) < units:
        return [TOO_LITTLE]
    return [fund.redeem(h, units)]


def transfer_units(house, c, origin, to, units):
    if c not in house.classes:
        return [NO_CLASS]
    if not is_holder(origin) or not is_holder(to) or origin == to or not are_units(units):
        return [OUT_OF_RANGE]
    fund = house.classes[c]
    if fund.units_of(origin) < units:
        return [TOO_LITTLE]
    if not has_room_for_moved(fund, origin, to, units):
        return [NO_ROOM]
    fund.transfer(origin, to, units)
    return [fund.units_of(origin)]

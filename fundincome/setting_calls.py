"""The calls that set up the house: clear, rate, holder, class, mandate."""

from fundincome.limits import CLASSES, MOST_RATE, NO_CLASS, OUT_OF_RANGE, THERE_ALREADY
from fundincome.limits import is_holder, is_kind, within


def clear_all(house):
    house.start_anew()
    return [0]


def set_rate(house, kind, rate):
    if not is_kind(kind) or not within(rate, 0, MOST_RATE):
        return [OUT_OF_RANGE]
    before = house.rates[kind]
    house.rates[kind] = rate
    return [before]


def set_kind(house, h, kind):
    if not is_holder(h) or not is_kind(kind):
        return [OUT_OF_RANGE]
    holder = house.holders[h]
    before = holder.kind
    holder.kind = kind
    return [before]


def start_class(house, c):
    if not within(c, 0, CLASSES - 1):
        return [OUT_OF_RANGE]
    if c in house.classes:
        return [THERE_ALREADY]
    house.add_class(c)
    return [0]


def set_mandate(house, c, h, on):
    if c not in house.classes:
        return [NO_CLASS]
    if not is_holder(h) or not within(on, 0, 1):
        return [OUT_OF_RANGE]
    fund = house.classes[c]
    before = fund.again[h]
    fund.again[h] = on
    return [before]

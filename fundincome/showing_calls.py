"""The calls that only show what is there: classat, sums, holding, lot, owed, accrualat, counts."""

from fundincome.limits import NO_CLASS, NOT_THERE, OUT_OF_RANGE
from fundincome.limits import is_holder, within


def show_class(house, c):
    if c not in house.classes:
        return [NO_CLASS]
    fund = house.classes[c]
    return [fund.issued(), fund.pot, fund.open_parts()]


def show_sums(house, c):
    if c not in house.classes:
        return [NO_CLASS]
    fund = house.classes[c]
    return [fund.received, fund.bought, fund.redeemed, fund.paid, fund.placed, fund.pot]


def show_holding(house, c, h):
    if c not in house.classes:
        return [NO_CLASS]
    if not is_holder(h):
        return [OUT_OF_RANGE]
    fund = house.classes[c]
    units = fund.units_of(h)
    return [units, len(fund.lots[h]), fund.worth_of_risen(units), fund.again[h]]


def show_lot(house, c, h, i):
    if c not in house.classes:
        return [NO_CLASS]
    if not is_holder(h):
        return [OUT_OF_RANGE]
    fund = house.classes[c]
    if not within(i, 0, len(fund.lots[h]) - 1):
        return [NOT_THERE]
    lot = fund.lots[h][i]
    return [lot.units, fund.risen - lot.entry, max(lot.entry - fund.given, 0)]


def show_owed(house, h):
    if not is_holder(h):
        return [OUT_OF_RANGE]
    holder = house.holders[h]
    return [holder.owed, holder.paid_out, holder.tax, holder.capital, holder.income, holder.kind]


def show_accrual(house, place):
    if not within(place, 0, len(house.accruals) - 1):
        return [NOT_THERE]
    accrual = house.accruals[place]
    return [accrual.class_number, accrual.coins, accrual.days, accrual.passed, accrual.told, accrual.stopped]


def show_counts(house):
    return [house.day, len(house.accruals), house.unclaimed]

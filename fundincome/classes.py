"""Reads one list of calls and does them in order."""

from fundincome.giving_calls import give_income, pay_holder, quote_portion
from fundincome.house import House
from fundincome.income_calls import bring_income, start_accrual, stop_accrual, tick_days
from fundincome.setting_calls import clear_all, set_kind, set_mandate, set_rate, start_class
from fundincome.showing_calls import show_accrual, show_class, show_counts, show_holding
from fundincome.showing_calls import show_lot, show_owed, show_sums
from fundincome.unit_calls import create_units, redeem_units, transfer_units


def known_calls():
    # By a call's number: how many numbers stand behind it, and what does it.
    return {
        0: (0, clear_all),
        1: (2, set_rate),
        2: (2, set_kind),
        3: (1, start_class),
        4: (3, set_mandate),
        5: (3, create_units),
        6: (3, redeem_units),
        7: (4, transfer_units),
        8: (2, bring_income),
        9: (3, start_accrual),
        10: (1, stop_accrual),
        11: (1, tick_days),
        12: (3, give_income),
        13: (1, pay_holder),
        14: (1, show_class),
        15: (1, show_sums),
        16: (2, show_holding),
        17: (3, show_lot),
        18: (1, show_owed),
        19: (1, show_accrual),
        20: (3, quote_portion),
        21: (0, show_counts),
    }


def done(house, action, numbers):
    if len(numbers) == 0:
        return action(house)
    if len(numbers) == 1:
        return action(house, numbers[0])
    if len(numbers) == 2:
        return action(house, numbers[0], numbers[1])
    if len(numbers) == 3:
        return action(house, numbers[0], numbers[1], numbers[2])
    return action(house, numbers[0], numbers[1], numbers[2], numbers[3])


def answers(calls):
    house = House()
    known = known_calls()
    found = []
    place = 0
    while place < len(calls):
        call = known[calls[place]]
        behind = place + 1 + call[0]
        answer = done(house, call[1], calls[place + 1:behind])
        found.append(len(answer))
        found.extend(answer)
        place = behind
    return found

"""Reads one list of calls and does them in order."""

from fundincome.house import House
from fundincome.income_calls import bring_income, start_accrual, stop_accrual
from fundincome.setting_calls import clear_all, set_kind, set_mandate, set_rate, start_class
from fundincome.unit_calls import create_units, redeem_units, transfer_units


def known_calls():
    # By a call's number: how many numbers stand behind it, and what does it.
    return {
        0: (0, clear_all),
        1: (2, set_rate),
        2: (2, set_kind),
        3: (1, start_class),
        4: (3, set_mandate),
        5: (3, create_units),
        6: (3, redeem_units),
        7: (4, transfer_units),
        8: (2, bring_income),
        9: (3, start_accrual),
        10: (1, stop_accrual),
    }


def done(house, action, numbers):
    if len(numbers) == 0:
        return action(house)
    if len(numbers) == 1:
        return action(house, numbers[0])
    if len(numbers) == 2:
        return action(house, numbers[0], numbers[1])
    if len(numbers) == 3:
        return action(house, numbers[0], numbers[1], numbers[2])
    return action(house, numbers[0], numbers[1], numbers[2], numbers[3])


def answers(calls):
    house = House()
    known = known_calls()
    found = []
    place = 0
    while place < len(calls):
        call = known[calls[place]]
        behind = place + 1 + call[0]
        answer = done(house, call[1], calls[place + 1:behind])
        found.append(len(answer))
        found.extend(answer)
        place = behind
    return found

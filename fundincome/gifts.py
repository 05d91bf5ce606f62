"""What giving out a rate brings each holder, new units among it.

It is all reckoned before anything is changed, so that each holder's part is as the class was at the
beginning, and a refusal finds everything as it was.
"""

from fundincome.coins import PARTS, coins_up
from fundincome.limits import HOLDERS
from fundincome.portions import portion_of


class Gift:
    def __init__(self, portion, new_units, for_units, for_risen):
        self.portion = portion
        self.new_units = new_units
        # What is put in again: for the units themselves, and for what stays open on them.
        self.for_units = for_units
        self.for_risen = for_risen

    def cost(self):
        return self.for_units + self.for_risen

    def left_over(self):
        return self.portion.net() - self.cost()


def paid_gift(portion):
    return Gift(portion, 0, 0, 0)


def placed_gift(portion, stays, price):
    units = portion.net() * PARTS // (price * PARTS + stays)
    return Gift(portion, units, units * price, coins_up(units * stays))


def gift_of(house, fund, h, r, price):
    portion = portion_of(fund, h, r, house.rate_of(h))
    if fund.again[h] == 0:
        return paid_gift(portion)
    return placed_gift(portion, fund.open_parts() - r, price)


def gifts_of(house, fund, r, price):
    return [gift_of(house, fund, h, r, price) for h in range(HOLDERS)]


def coins_of(gifts):
    return sum([gift.portion.coins for gift in gifts])


def new_units_of(gifts):
    return sum([gift.new_units for gift in gifts])

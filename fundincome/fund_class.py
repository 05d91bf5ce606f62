"""One class of the fund: its pot, its lots and its sums.

Nothing is refused here: the calls ask first whether a change may be made.
"""

from fundincome.coins import PARTS, coins_down, coins_up
from fundincome.limits import HOLDERS
from fundincome.lots import Lot, first_lots, later_lots, units_in


class FundClass:
    def __init__(self):
        self.pot = 0
        self.risen = 0
        self.given = 0
        self.lots = [[] for h in range(HOLDERS)]
        # Of each holder: 1 if income is put in again, else 0, as the calls tell it.
        self.again = [0 for h in range(HOLDERS)]
        self.received = 0
        self.bought = 0
        self.redeemed = 0
        self.paid = 0
        self.placed = 0

    def units_of(self, h):
        return units_in(self.lots[h])

    def issued(self):
        return sum([units_in(lots) for lots in self.lots])

    def open_parts(self):
        return self.risen - self.given

    def bring_up(self):
        units = self.issued()
        if units > 0:
            reached = self.pot * PARTS // units
            # What's open never falls here: a unit keeps what has risen on it.
            if reached > self.open_parts():
                self.risen = self.given + reached

    def cost_of_risen(self, units):
        # Rounded up, so that who comes in later takes nothing from those before.
        return coins_up(units * self.open_parts())

    def worth_of_risen(self, units):
        return coins_down(units * self.open_parts())

    def receive(self, coins):
        self.pot += coins
        self.received += coins
        self.bring_up()

    def create(self, h, units):
        cost = self.cost_of_risen(units)
        self.lots[h].append(Lot(units, self.risen))
        self.pot += cost
        self.bought += cost
        self.bring_up()
        return cost

    def redeem(self, h, units):
        coins = self.worth_of_risen(units)
        self.lots[h] = later_lots(self.lots[h], units)
        if self.issued() == 0:
            # Nobody is left whom the rounded rest could belong to.
            coins = self.pot
            self.given = self.risen
        self.pot -= coins
        self.redeemed += coins
        self.bring_up()
        return coins

    def transfer(self, origin, to, units):
        moved = first_lots(self.lots[origin], units)
        self.lots[origin] = later_lots(self.lots[origin], units)
        self.lots[to].extend(moved)

    def give_out(self, r, gifts):
        self.given += r
        for h in range(HOLDERS):
            self.hand_out(h, gifts[h])
        # Only now: until here risen is what it was at the beginning, which is the new lots' entry.
        self.bring_up()

    def hand_out(self, h, gift):
        self.pot += gift.for_risen - gift.portion.coins
        self.bought += gift.for_risen
        self.paid += gift.portion.coins
        self.placed += gift.cost()
        if gift.new_units > 0:
            self.lots[h].append(Lot(gift.new_units, self.risen))

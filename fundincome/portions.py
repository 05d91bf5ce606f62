"""A holder's part of a rate: what giving out that rate brings on their units, as the class is."""

from fundincome.coins import MILLIONTHS, coins_down, coins_up


class Portion:
    def __init__(self, coins, capital, tax):
        # All that is given on the units; capital and tax are of it.
        self.coins = coins
        self.capital = capital
        self.tax = tax

    def income_in(self):
        return self.coins - self.capital

    def net(self):
        return self.coins - self.tax


def capital_parts(lots, given, r):
    # A lot paid for what had risen by its entry; what was given out since then it has back already.
    return sum([lot.units * min(r, max(lot.entry - given, 0)) for lot in lots])


def portion_of(fund, h, r, rate):
    coins = coins_down(fund.units_of(h) * r)
    capital = min(coins, coins_up(capital_parts(fund.lots[h], fund.given, r)))
    tax = (coins - capital) * rate // MILLIONTHS
    return Portion(coins, capital, tax)

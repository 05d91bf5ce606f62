"""All that is kept while one list of calls is done."""

from fundincome.accrual import Accrual
from fundincome.fund_class import FundClass
from fundincome.limits import HOLDERS, KINDS


class Holder:
    def __init__(self):
        self.kind = 0
        self.owed = 0
        self.paid_out = 0
        self.tax = 0
        self.capital = 0
        self.income = 0

    def take(self, gift):
        self.owed += gift.left_over()
        self.tax += gift.portion.tax
        self.capital += gift.portion.capital
        self.income += gift.portion.income_in()

    def pay(self):
        coins = self.owed
        self.paid_out += coins
        self.owed = 0
        return coins


class House:
    def __init__(self):
        self.start_anew()

    def start_anew(self):
        self.day = 0
        self.unclaimed = 0
        self.rates = [0 for kind in range(KINDS)]
        self.holders = [Holder() for h in range(HOLDERS)]
        # By their numbers: a class that isn't there has no key.
        self.classes = {}
        # By their places.
        self.accruals = []

    def rate_of(self, h):
        return self.rates[self.holders[h].kind]

    def add_class(self, c):
        self.classes[c] = FundClass()

    def add_accrual(self, c, coins, days):
        self.accruals.append(Accrual(c, coins, days))

    def take_income(self, c, coins):
        fund = self.classes[c]
        if fund.issued() == 0:
            self.unclaimed += coins
        else:
            fund.receive(coins)

    def coming_in(self, c, n):
        return sum([accrual.more_after(n) for accrual in self.accruals if accrual.class_number == c])

    def pass_days(self, n):
        coming = [(c, self.coming_in(c, n)) for c in sorted(self.classes)]
        self.day += n
        for accrual in self.accruals:
            accrual.let_pass(n)
        for c, coins in coming:
            self.take_income(c, coins)

    def spread_gifts(self, c, r, gifts):
        self.classes[c].give_out(r, gifts)
        for h in range(HOLDERS):
            self.holders[h].take(gifts[h])

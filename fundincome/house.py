"""All that is kept while one list of calls is done."""

from fundincome.fund_class import FundClass
from fundincome.limits import HOLDERS, KINDS


class Holder:
    def __init__(self):
        self.kind = 0
        self.owed = 0
        self.paid_out = 0
        self.tax = 0
        self.capital = 0
        self.income = 0


class Accrual:
    def __init__(self, c, coins, days):
        self.class_number = c
        self.coins = coins
        self.days = days
        self.passed = 0
        self.told = 0
        # 1 or 0, as the calls tell it.
        self.stopped = 0


class House:
    def __init__(self):
        self.start_anew()

    def start_anew(self):
        self.day = 0
        self.unclaimed = 0
        self.rates = [0 for kind in range(KINDS)]
        self.holders = [Holder() for h in range(HOLDERS)]
        # By their numbers: a class that isn't there has no key.
        self.classes = {}
        # By their places.
        self.accruals = []

    def add_class(self, c):
        self.classes[c] = FundClass()

    def add_accrual(self, c, coins, days):
        self.accruals.append(Accrual(c, coins, days))

    def take_income(self, c, coins):
        fund = self.classes[c]
        if fund.issued() == 0:
            self.unclaimed += coins
        else:
            fund.receive(coins)

"""Income that accrues by days."""


class Accrual:
    def __init__(self, c, coins, days):
        self.class_number = c
        self.coins = coins
        self.days = days
        self.passed = 0
        self.told = 0
        # 1 or 0, as the calls tell it.
        self.stopped = 0

    def passed_after(self, n):
        if self.stopped == 1:
            return self.passed
        return min(self.passed + n, self.days)

    def told_after(self, n):
        return self.coins * self.passed_after(n) // self.days

    def more_after(self, n):
        return self.told_after(n) - self.told

    def let_pass(self, n):
        self.told = self.told_after(n)
        self.passed = self.passed_after(n)

"""The numbers that bound the calls, and the numbers that refuse them."""

HOLDERS = 20
CLASSES = 4
KINDS = 4

MOST_RATE = 1000000
MOST_UNITS = 1000000000
MOST_POT = 1000000000
MOST_LOTS = 50
MOST_INCOME = 1000000
MOST_DAYS = 1000
MOST_ACCRUALS = 50
MOST_GIVEN = 1000000000000000000
MOST_PRICE = 1000000

OUT_OF_RANGE = -1
NO_CLASS = -2
NO_ROOM = -3
THERE_ALREADY = -4
TOO_LITTLE = -5
NOT_THERE = -6


def within(number, lowest, highest):
    return lowest <= number and number <= highest


def is_holder(h):
    return within(h, 0, HOLDERS - 1)


def is_kind(kind):
    return within(kind, 0, KINDS - 1)

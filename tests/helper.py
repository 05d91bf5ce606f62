"""Calls written by name, and what they answer, for the tests."""

from fundincome.classes import answers

FAR = 10 ** 18
BILLION = 10 ** 9
MILLION = 10 ** 6
# Parts of half a coin.
HALF = 500000000

OUT_OF_RANGE, NO_CLASS, NO_ROOM, THERE_ALREADY, TOO_LITTLE, NOT_THERE = -1, -2, -3, -4, -5, -6

# Where the class 1 alone is there.
NO_SUCH_CLASSES = (0, 2, 3, 4, -1, -FAR, FAR)
NO_HOLDERS = (-1, 20, -FAR, FAR)


def clear():
    return [0]


def rate(kind, millionths):
    return [1, kind, millionths]


def holder(h, kind):
    return [2, h, kind]


def class_of(c):
    return [3, c]


def mandate(c, h, on):
    return [4, c, h, on]


def create(c, h, units):
    return [5, c, h, units]


def redeem(c, h, units):
    return [6, c, h, units]


def transfer(c, origin, to, units):
    return [7, c, origin, to, units]


def income(c, coins):
    return [8, c, coins]


def accrue(c, coins, days):
    return [9, c, coins, days]


def stop(place):
    return [10, place]


def tick(n):
    return [11, n]


def give(c, r, price):
    return [12, c, r, price]


def pay(h):
    return [13, h]


def classat(c):
    return [14, c]


def sums(c):
    return [15, c]


def holding(c, h):
    return [16, c, h]


def lot(c, h, i):
    return [17, c, h, i]


def owed(h):
    return [18, h]


def accrualat(place):
    return [19, place]


def quote(c, r, h):
    return [20, c, r, h]


def counts():
    return [21]


def joined(calls):
    return [number for call in calls for number in call]


def whole(*calls):
    """The whole list that is given back for these calls."""
    return answers(joined(calls))


def told(answered):
    """The whole list that is due; a number stands for a call that answers it alone."""
    return joined([1, one] if isinstance(one, int) else [len(one), *one] for one in answered)


def parted(found):
    """A whole list call by call."""
    parts, place = [], 0
    while place < len(found):
        behind_it = place + 1 + found[place]
        parts.append(found[place + 1:behind_it])
        place = behind_it
    return parts


def behind(start, *calls):
    """What these calls answer behind the start, call by call."""
    parts = parted(whole(*start, *calls))
    assert len(parts) == len(start) + len(calls), parts
    return parts[len(start):]


def shown(*calls):
    """What the last of these calls answers."""
    return behind(calls[:-1], calls[-1])[0]


def last(*calls):
    """The one number that the last of these calls answers."""
    answer = shown(*calls)
    assert len(answer) == 1, answer
    return answer[0]


def lots(start, c, h):
    """Of each lot its units, and its entry less what is given."""
    many = behind(start, holding(c, h))[0][1]
    return [(one[0], one[2]) for one in behind(start, *[lot(c, h, i) for i in range(many)])]


def seen(*start):
    """All that the calls can show behind the start."""
    places = [(c, h) for c in range(4) for h in range(20)]
    parts = behind(
        start, counts(), *[classat(c) for c in range(4)], *[sums(c) for c in range(4)],
        *[owed(h) for h in range(20)], *[accrualat(place) for place in range(51)])
    holdings = behind(start, *[holding(c, h) for c, h in places])
    there = [
        lot(c, h, i) for (c, h), answer in zip(places, holdings) if answer != [NO_CLASS] for i in range(answer[1])]
    # The rates come last: they are seen by setting them.
    return parts + holdings + behind(start, *there, *[rate(kind, 0) for kind in range(4)])

"""Coins, parts of a coin, and millionths."""

# A coin is so many parts.
PARTS = 1000000000

MILLIONTHS = 1000000


def coins_down(parts):
    return parts // PARTS


def coins_up(parts):
    return (parts + PARTS - 1) // PARTS

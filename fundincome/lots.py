"""Lots of units, and how they are taken first in first out.

A lot is never changed once it is made: a lot taken in part becomes two new ones.
"""


class Lot:
    def __init__(self, units, entry):
        self.units = units
        self.entry = entry


def units_in(lots):
    return sum([lot.units for lot in lots])


def first_lots(lots, units):
    taken = []
    missing = units
    for lot in lots:
        part = min(missing, lot.units)
        missing -= part
        if part > 0:
            taken.append(Lot(part, lot.entry))
    return taken


def later_lots(lots, units):
    left = []
    missing = units
    for lot in lots:
        part = min(missing, lot.units)
        missing -= part
        if part < lot.units:
            left.append(Lot(lot.units - part, lot.entry))
    return left

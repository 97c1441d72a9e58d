"""Smooth offers from columns of integers and from seats in groups."""

from math import gcd

from takersrest.greatest import greatest_sets
from takersrest.matching import matched


def columns(rows, size):
    """Return the offer of the columns of the rows, each with size entries."""
    basis = _independent_rows(rows)
    return size, greatest_sets(size, lambda things: _are_independent(basis, things))


def _are_independent(rows, things):
    picked = [[row[thing] for thing in things] for row in rows]
    return len(_independent_rows(picked)) == len(things)


def _independent_rows(rows):
    """Return a list of independent rows of which all rows are sums of multiples by fractions."""
    kept = []
    for row in rows:
        left = _shortened(row)
        for base in kept:
            left = _cleared(left, base)
        if _first_filled(left) is not None:
            kept.append(left)
    return kept


def _cleared(row, base):
    """Return a multiple of the row plus one of base with 0 where base has its first other entry."""
    at = _first_filled(base)
    if row[at] == 0:
        return row
    times = base[at]
    minus = row[at]
    return _shortened([times * entry - minus * other for entry, other in zip(row, base)])


def _first_filled(row):
    for at, entry in enumerate(row):
        if entry != 0:
            return at
    return None


def _shortened(row):
    # Without common divisors the entries stay as short as they can be without fractions.
    divisor = 0
    for entry in row:
        divisor = gcd(divisor, entry)
    return [entry // divisor for entry in row] if divisor > 1 else list(row)


def seats(size, groups):
    """Return the offer of seats in the groups."""
    open_to = [_groups_with(thing, groups) for thing in range(size)]
    return size, greatest_sets(size, lambda things: _can_sit(things, open_to))


def _groups_with(thing, groups):
    return [position for position, group in enumerate(groups) if thing in group]


def _can_sit(things, open_to):
    return matched({thing: open_to[thing] for thing in things}) is not None

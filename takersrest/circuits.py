"""Offers told by their circuits, faults among circuits, and the pieces of smooth offers."""

from takersrest.sets import fewer_by_one, leave_out, put_in, union
from takersrest.smaller import circuits, free_sets


def from_circuits(size, barred):
    """Return the offer that is told by these circuits."""
    free = _sets_around(size, barred)
    return size, tuple(sorted([things for things in free if not _can_grow(things, size, free)]))


def _sets_around(size, barred):
    """Return a dict whose keys are all sets of things within which no barred set lies."""
    closed = {row: True for row in barred}
    free = {(): True}
    for thing in range(size):
        # A set comes behind all sets that lie within it, so these are decided before it is.
        for things in list(free):
            longer = things + (thing,)
            if longer not in closed and all([part in free for part in fewer_by_one(longer)]):
                free[longer] = True
    return free


def _can_grow(things, size, free):
    missing = [thing for thing in range(size) if thing not in things]
    return any([put_in(things, thing) in free for thing in missing])


def circuit_fault(offer):
    """Return the first circuit fault as a triple, or None if the offer is smooth."""
    free = free_sets(offer)
    rows = circuits(offer)
    for at, first in enumerate(rows):
        # A fault is one with its circuits exchanged, too: in the first one they are in order.
        for second in rows[at + 1:]:
            thing = _fault_thing(first, second, free)
            if thing is not None:
                return first, second, thing
    return None


def _fault_thing(first, second, free):
    common = [thing for thing in first if thing in second]
    if len(common) == 0:
        return None
    whole = union(first, second)
    for thing in common:
        if leave_out(whole, thing) in free:
            return thing
    return None


def pieces(offer):
    """Return the tuple of the pieces of a smooth offer in ascending order."""
    rows = circuits(offer)
    return tuple(sorted({_things_with(thing, rows) for thing in range(offer[0])}))


def _things_with(thing, rows):
    joined = [other for row in rows if thing in row for other in row]
    return tuple(sorted(set(joined + [thing])))


def piece_offer(offer, things):
    """Return the offer of a piece of a smooth offer."""
    numbers = {thing: number for number, thing in enumerate(things)}
    lots = {tuple([numbers[thing] for thing in lot if thing in numbers]) for lot in offer[1]}
    return len(things), tuple(sorted(lots))

"""Circuits and spans of an offer, and the offers that are left when a thing is taken away."""

from takersrest.offers import rank
from takersrest.sets import fewer_by_one, leave_out, put_in


def free_sets(offer):
    """Return a dict with all free sets of the offer as its keys."""
    free = {}
    todo = list(offer[1])
    while len(todo) > 0:
        things = todo.pop()
        if things not in free:
            free[things] = True
            todo.extend(fewer_by_one(things))
    return free


def circuits(offer):
    """Return the tuple of all circuits in ascending order."""
    free = free_sets(offer)
    return tuple(sorted([row for things in free for row in _circuits_above(things, offer[0], free)]))


def _circuits_above(things, size, free):
    # A circuit without its greatest thing is free: so each one comes of just one free set.
    least = things[-1] + 1 if len(things) > 0 else 0
    longer = [things + (thing,) for thing in range(least, size)]
    return [row for row in longer if row not in free and all([part in free for part in fewer_by_one(row)])]


def span(offer, things):
    """Return the set of all things whose addition does not increase the rank of the set."""
    reached = rank(offer, things)
    return tuple([thing for thing in range(offer[0]) if _rank_with(offer, things, thing) == reached])


def _rank_with(offer, things, thing):
    return rank(offer, things) if thing in things else rank(offer, put_in(things, thing))


def without(offer, thing):
    """Return the offer without the thing."""
    size, lots = offer
    kept = [lot for lot in lots if thing not in lot]
    return size - 1, _without_thing(kept if len(kept) > 0 else lots, thing)


def holding(offer, thing):
    """Return the offer holding the thing."""
    size, lots = offer
    kept = [lot for lot in lots if thing in lot]
    return size - 1, _without_thing(kept if len(kept) > 0 else lots, thing)


def _without_thing(lots, thing):
    return tuple(sorted([_closed_up(leave_out(lot, thing), thing) for lot in lots]))


def _closed_up(things, gap):
    return tuple([thing - 1 if thing > gap else thing for thing in things])

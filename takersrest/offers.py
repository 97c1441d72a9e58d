"""Offers: how they are made, their free sets, and which of them are smooth."""

from takersrest.errors import BadThing, NestedLots, NoLots
from takersrest.sets import difference, exchange, lies_within, subsets


def make_offer(size, lots):
    """Return the offer with these lots, which may come in any order and with duplicates."""
    if len(lots) == 0:
        raise NoLots("an offer has at least one lot")
    _check_things(size, lots)
    kept = sorted({tuple(sorted(set(row))) for row in lots})
    _check_nesting(kept)
    return size, tuple(kept)


def _check_things(size, lots):
    for position, row in enumerate(lots):
        if any(number < 0 or number >= size for number in row):
            raise BadThing(position)


def _check_nesting(lots):
    for inner in lots:
        for outer in lots:
            # A set lies within no other set of as many things.
            if len(inner) < len(outer) and lies_within(inner, outer):
                raise NestedLots(inner, outer)


def is_free(offer, things):
    """Tell whether the set lies within a lot."""
    return any(lies_within(things, lot) for lot in offer[1])


def rank(offer, things):
    """Return the greatest number of things of the set that a lot has."""
    return max([_count_common(things, lot) for lot in offer[1]])


def _count_common(things, lot):
    return len([thing for thing in things if thing in lot])


def cut(offer, count):
    """Return the offer of all free sets with count things."""
    size, lots = offer
    return size, tuple(sorted({things for lot in lots for things in subsets(lot, count)}))


def opposite(offer):
    """Return the offer of the sets of all things that a lot does not have."""
    size, lots = offer
    return size, tuple(sorted([_things_missing(size, lot) for lot in lots]))


def _things_missing(size, lot):
    return difference(tuple(range(size)), lot)


def first_fault(offer):
    """Return the first fault as a triple, or None if the offer is smooth."""
    lots = offer[1]
    known = known_lots(offer)
    for lot in lots:
        for out in lot:
            # The same for every other lot, so it is worked out once for each lot and thing.
            partners = replacements(offer, known, lot, out)
            for other in lots:
                if out not in other and not any(thing in partners for thing in other):
                    return lot, out, other
    return None


def known_lots(offer):
    """Return a dict whose keys are the lots."""
    return {lot: True for lot in offer[1]}


def replacements(offer, known, lot, out):
    """Return the list of all things that make a lot again in the place of out; known has the lots as its keys."""
    missing = _things_missing(offer[0], lot)
    return [thing for thing in missing if exchange(lot, out, thing) in known]


def is_smooth(offer):
    """Tell whether the offer is smooth."""
    return first_fault(offer) is None

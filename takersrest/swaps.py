"""Swaps between two lots, the cheapest lots, and unions of lots; all offers are smooth."""

from takersrest.matching import matched
from takersrest.offers import known_lots, replacements
from takersrest.pricing import cheapest, price
from takersrest.sets import difference, exchange, union


def swap(offer, first, second, thing):
    """Return the least thing of second that can change places with the thing of first."""
    known = known_lots(offer)
    possible = [other for other in replacements(offer, known, first, thing) if other in second]
    return min([other for other in possible if exchange(second, other, thing) in known])


def partners_of(offer, first, second):
    """Return a tuple of pairs: each thing that only first has with a thing of its own that only second has."""
    known = known_lots(offer)
    gone = difference(first, second)
    options = {out: [into for into in replacements(offer, known, first, out) if into in second] for out in gone}
    found = matched(options)
    return tuple([(out, found[out]) for out in gone])


def cheapest_offer(offer, prices):
    """Return the offer of all lots with the least price."""
    size, lots = offer
    least = price(cheapest(offer, prices), prices)
    return size, tuple([lot for lot in lots if price(lot, prices) == least])


def together(first, second):
    """Return the offer of the greatest unions of a lot of each offer."""
    unions = sorted({union(lot, other) for lot in first[1] for other in second[1]})
    most = max([len(things) for things in unions])
    return first[0], tuple([things for things in unions if len(things) == most])


def spare(first, second):
    """Return the least number of things that a lot of each offer have in common."""
    return _things_in_a_lot(first) + _things_in_a_lot(second) - _things_in_a_lot(together(first, second))


def _things_in_a_lot(offer):
    # In a smooth offer all lots have the same number of things.
    return len(offer[1][0])

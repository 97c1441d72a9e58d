"""Prices: the cheapest lot, better exchanges, the greedy lot, and traps."""

from takersrest.offers import first_fault, is_free, known_lots, replacements
from takersrest.sets import leave_out, put_in


def price(things, prices):
    """Return the sum of the prices of the things."""
    return sum([prices[thing] for thing in things])


def cheapest(offer, prices):
    """Return the lot with the least price, among those the first one."""
    return min(offer[1], key=lambda lot: price(lot, prices))


def best_exchange(offer, lot, prices):
    """Return the better exchange (out, in) with the least difference of prices, or None if there is none."""
    known = known_lots(offer)
    pairs = [(out, into) for out in lot for into in replacements(offer, known, lot, out)]
    better = [(prices[into] - prices[out], out, into) for out, into in pairs if prices[into] < prices[out]]
    if len(better) == 0:
        return None
    _, out, into = min(better)
    return out, into


def greedy_lot(offer, prices):
    """Return the lot that is made by adding the cheapest thing that can be added, again and again."""
    things = ()
    addable = _addable_things(offer, things)
    while len(addable) > 0:
        things = put_in(things, min(addable, key=lambda thing: prices[thing]))
        addable = _addable_things(offer, things)
    return things


def _addable_things(offer, things):
    missing = [thing for thing in range(offer[0]) if thing not in things]
    return [thing for thing in missing if is_free(offer, put_in(things, thing))]


def trap(offer):
    """Return prices, a lot without a better exchange, and a lot with a lesser price, or None for a smooth offer."""
    fault = first_fault(offer)
    if fault is None:
        return None
    lot, out, other = fault
    # Only an exchange of out could be better, and only for a thing of the other lot: the fault says there is none.
    costless = leave_out(lot, out) + other
    return tuple([0 if thing in costless else 1 for thing in range(offer[0])]), lot, other

"""All greatest good sets, for goodness of the kind that makes an offer smooth."""

from takersrest.sets import exchange


def greatest_sets(size, is_good):
    """Return all good sets with the greatest number of things, in ascending order.

    is_good tells of a set whether it is good. The good sets have to be the free sets of a smooth offer.
    """
    lots = [()]
    for thing in range(size):
        # All greatest sets among the earlier things span the same, so one of them speaks for all.
        if is_good(lots[0] + (thing,)):
            lots = [lot + (thing,) for lot in lots]
        else:
            lots = lots + _exchanged_for(thing, lots, is_good)
    return tuple(sorted(lots))


def _exchanged_for(thing, lots, is_good):
    found = set()
    for lot in lots:
        for out in lot:
            changed = exchange(lot, out, thing)
            if changed not in found and is_good(changed):
                found.add(changed)
    return sorted(found)

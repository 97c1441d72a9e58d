"""The deal: takers with smooth offers come and go, and no thing is ever in more lots than a limit tells."""

from takersrest.apart import bar_behind, least_crowded
from takersrest.errors import Barred
from takersrest.roll import Roll, check_fault, check_size, left_out
from takersrest.sets import count_sets


class Deal:
    """A deal for takers with offers of one size."""

    def __init__(self, size, limit):
        self._size = size
        self._limit = limit
        self._roll = Roll()

    def enter(self, offer):
        """Bring in a taker and return its number. Raises WrongSize, RoughOffer and Barred."""
        check_size(self._size, offer)
        check_fault(offer)
        offers = self._roll.takers + (offer,)
        lots = least_crowded(offers, self._limit, self._roll.lots + (offer[1][0],))
        found = bar_behind(offers, self._limit, lots)
        if found is not None:
            raise Barred(found)
        return self._roll.bring(offer, lots)

    def leave(self, number):
        """Take the taker out; all others keep their lots. Raises UnknownTaker."""
        position = self._roll.position_of(number)
        self._roll.release(position, left_out(self._roll.lots, position))

    def undo(self):
        """Take back the last deed that is not taken back yet. Raises NothingToUndo."""
        self._roll.take_back()

    def places(self):
        """Return the tuple of the pairs (number, lot) of all takers, by number."""
        return self._roll.pairs()

    def free_places(self):
        """Return the tuple of how many more lots each thing can be in."""
        return tuple([self._limit - count for count in count_sets(self._size, self._roll.lots)])

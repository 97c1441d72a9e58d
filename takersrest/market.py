"""The market: takers with smooth offers and one cost table come and go, and have the least crowd sum."""

from takersrest.alike import crowd_sum
from takersrest.chains import fitting_prices, least_from
from takersrest.roll import Roll, check_fault, check_size, left_out
from takersrest.sets import count_sets


class Market:
    """A market for takers who all have the same cost table."""

    def __init__(self, costs, room):
        self._costs = costs
        self._room = room
        self._roll = Roll()

    def enter(self, offer):
        """Bring in a taker and return its number. Raises HallFull, WrongSize and RoughOffer."""
        self._roll.check_room(self._room)
        check_size(len(self._costs), offer)
        check_fault(offer)
        taker = (offer, self._costs)
        lots = least_from(self._roll.takers + (taker,), self._roll.lots + (offer[1][0],))
        return self._roll.bring(taker, lots)

    def leave(self, number):
        """Take the taker out. Raises UnknownTaker."""
        position = self._roll.position_of(number)
        others = left_out(self._roll.takers, position)
        lots = left_out(self._roll.lots, position)
        self._roll.release(position, least_from(others, lots) if len(others) > 0 else ())

    def undo(self):
        """Take back the last deed that is not taken back yet. Raises NothingToUndo."""
        self._roll.take_back()

    def places(self):
        """Return the tuple of the pairs (number, lot) of all takers, by number."""
        return self._roll.pairs()

    def game(self):
        """Return the game of all takers, by number."""
        return self._roll.takers

    def prices(self):
        """Return a price row that fits the choice; without takers all prices are 0."""
        if len(self._roll.takers) == 0:
            return tuple([0 for _ in self._costs])
        return fitting_prices(self._roll.takers, self._roll.lots)

    def loads(self):
        """Return the tuple of the loads of all things."""
        return tuple(count_sets(len(self._costs), self._roll.lots))

    def crowd(self):
        """Return the crowd sum of the choice."""
        return crowd_sum(self._roll.takers, self._roll.lots)

"""The hall: takers with smooth offers and costs of their own come and go, and are always at rest."""

from takersrest.errors import WrongSize
from takersrest.moments import Moment, bring_in, fill_gaps
from takersrest.roll import Roll, check_fault, check_size, left_out, put_between
from takersrest.sets import count_sets


class Hall:
    """A hall for takers with offers of one size."""

    def __init__(self, size, room):
        self._size = size
        self._room = room
        self._roll = Roll()

    def enter(self, offer, costs):
        """Bring in a taker and return its number. Raises HallFull, WrongSize and RoughOffer."""
        self._roll.check_room(self._room)
        check_size(self._size, offer)
        self._check_costs(costs)
        check_fault(offer)
        position = len(self._roll.takers)
        taker = (offer, costs)
        lots, moved = self._brought_in(self._roll.takers + (taker,), self._roll.lots + ((),), position)
        return self._roll.bring(taker, lots, moved)

    def leave(self, number):
        """Take the taker out. Raises UnknownTaker."""
        position = self._roll.position_of(number)
        lots, moved = self._taken_out(position)
        self._roll.release(position, lots, moved)

    def change(self, number, costs):
        """Give the taker these costs in the place of its own. Raises UnknownTaker and WrongSize."""
        position = self._roll.position_of(number)
        self._check_costs(costs)
        changed = (self._roll.takers[position][0], costs)
        takers = put_between(left_out(self._roll.takers, position), position, changed)
        # As if it left and entered again: for both the number of exchanges is bounded.
        others, moved = self._taken_out(position)
        lots, more = self._brought_in(takers, put_between(others, position, ()), position)
        self._roll.renew(takers, lots, moved + more)

    def undo(self):
        """Take back the last deed that is not taken back yet. Raises NothingToUndo."""
        self._roll.take_back()

    def places(self):
        """Return the tuple of the pairs (number, lot) of all takers, by number."""
        return self._roll.pairs()

    def game(self):
        """Return the game of all takers, by number."""
        return self._roll.takers

    def loads(self):
        """Return the tuple of the loads of all things."""
        return tuple(count_sets(self._size, self._roll.lots))

    @property
    def exchanges(self):
        """The number of all exchanges made so far."""
        return self._roll.moved

    def _check_costs(self, costs):
        if len(costs) != self._size or any([len(row) != self._room for row in costs]):
            raise WrongSize("a cost table does not have the size or the room of the hall")

    def _brought_in(self, takers, lots, position):
        """Return the lots of all takers, and the number of exchanges, when the one at the position gets its lot."""
        moment = Moment(self._size, takers, lots)
        made = bring_in(moment, position)
        return tuple(moment.sets), len([move for move in made if move[1] is not None])

    def _taken_out(self, position):
        """Return the lots of the others, and the number of exchanges, when the one at the position leaves."""
        moment = Moment(self._size, left_out(self._roll.takers, position), left_out(self._roll.lots, position))
        made = fill_gaps(moment, self._roll.lots[position])
        return tuple(moment.sets), len(made)

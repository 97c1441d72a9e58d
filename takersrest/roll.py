"""The roll of a hall, a market or a deal: who is there with which lot, and how it was before each deed."""

from takersrest.errors import HallFull, NothingToUndo, RoughOffer, UnknownTaker, WrongSize
from takersrest.offers import first_fault


class Roll:
    """Numbers, takers and lots in the order of the numbers. What a taker is, the owner of the roll decides."""

    def __init__(self):
        self.numbers = ()
        self.takers = ()
        self.lots = ()
        self.coming = 1
        self.moved = 0
        self.past = []

    def check_room(self, room):
        """Raise HallFull if there are as many takers as the room."""
        if len(self.numbers) >= room:
            raise HallFull("there is no room for another taker")

    def position_of(self, number):
        """Return the position of the taker with this number. Raises UnknownTaker."""
        for position, known in enumerate(self.numbers):
            if known == number:
                return position
        raise UnknownTaker(number)

    def pairs(self):
        """Return the tuple of all pairs of a number and a lot."""
        return tuple(zip(self.numbers, self.lots))

    def bring(self, taker, lots, moved=0):
        """Bring the taker in; lots are those of all takers behind this deed. Return its number."""
        number = self.coming
        self._keep()
        self.numbers = self.numbers + (number,)
        self.takers = self.takers + (taker,)
        self.lots = lots
        self.coming = number + 1
        self.moved = self.moved + moved
        return number

    def release(self, position, lots, moved=0):
        """Take the taker out."""
        self._keep()
        self.numbers = left_out(self.numbers, position)
        self.takers = left_out(self.takers, position)
        self.lots = lots
        self.moved = self.moved + moved

    def renew(self, takers, lots, moved):
        """Put these takers in the place of those that are there, with the same numbers."""
        self._keep()
        self.takers = takers
        self.lots = lots
        self.moved = self.moved + moved

    def _keep(self):
        self.past.append((self.numbers, self.takers, self.lots, self.coming, self.moved))

    def take_back(self):
        """Take back the last deed. Raises NothingToUndo."""
        if len(self.past) == 0:
            raise NothingToUndo("there is no deed that could be taken back")
        self.numbers, self.takers, self.lots, self.coming, self.moved = self.past.pop()


def left_out(row, position):
    """Return the tuple without the entry at the position."""
    return row[:position] + row[position + 1:]


def put_between(row, position, entry):
    """Return the tuple with the entry put in at the position."""
    return row[:position] + (entry,) + row[position:]


def check_size(size, offer):
    """Raise WrongSize if the offer does not have this size."""
    if offer[0] != size:
        raise WrongSize("an offer does not have the size that is asked for")


def check_fault(offer):
    """Raise RoughOffer with the first fault if the offer is not smooth."""
    fault = first_fault(offer)
    if fault is not None:
        raise RoughOffer(fault)

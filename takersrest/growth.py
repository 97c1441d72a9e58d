"""Logs of single moves, and games that grow thing by thing to a choice at rest."""

from takersrest.costs import cost_at
from takersrest.errors import BadMove
from takersrest.plays import check_smooth
from takersrest.sets import exchange, leave_out, put_in
from takersrest.smaller import free_sets


class Moment:
    """The sets of all takers and the loads of all things at a moment of a log."""

    def __init__(self, game):
        self.costs = [costs for _, costs in game]
        self.free = [free_sets(offer) for offer, _ in game]
        self.sets = [() for _ in game]
        self.counts = [0 for _ in range(game[0][0][0])] if len(game) > 0 else []

    def cost_now(self, taker, thing):
        """Return the taker's cost of the thing at its load."""
        return cost_at(self.costs[taker], thing, self.counts[thing])

    def cost_next(self, taker, thing):
        """Return the taker's cost of the thing at one more than its load."""
        return cost_at(self.costs[taker], thing, self.counts[thing] + 1)

    def can_add(self, taker, thing):
        """Tell whether the taker may add the thing."""
        things = self.sets[taker]
        return thing not in things and put_in(things, thing) in self.free[taker]

    def can_exchange(self, taker, out, into):
        """Tell whether the taker may put one thing in the place of another one."""
        things = self.sets[taker]
        if out not in things or into in things or exchange(things, out, into) not in self.free[taker]:
            return False
        return self.cost_next(taker, into) < self.cost_now(taker, out)

    def is_allowed(self, move):
        """Tell whether the move is allowed."""
        taker, out, into = move
        return self.can_add(taker, into) if out is None else self.can_exchange(taker, out, into)

    def make(self, move):
        """Make an allowed move."""
        taker, out, into = move
        kept = self.sets[taker]
        if out is not None:
            kept = leave_out(kept, out)
            self.counts[out] -= 1
        self.sets[taker] = put_in(kept, into)
        self.counts[into] += 1

    def cheapest_next(self, taker, things):
        """Return the one of the things that costs the taker the least at one more than its load."""
        return min(things, key=lambda thing: self.cost_next(taker, thing))


def replay(game, log):
    """Return the tuple of the sets behind the log. Raises BadMove with the first move that is not allowed."""
    moment = Moment(game)
    for position, move in enumerate(log):
        if not moment.is_allowed(move):
            raise BadMove(position)
        moment.make(move)
    return tuple(moment.sets)


def grow(game):
    """Return a choice at rest and a careful log that leads to it. Raises NotSmooth."""
    check_smooth([offer for offer, _ in game])
    moment = Moment(game)
    log = []
    for taker, (offer, _) in enumerate(game):
        # All lots of a smooth offer have the same number of things: as many are added.
        for _ in range(len(offer[1][0])):
            move = _adding_move(moment, taker)
            while move is not None:
                moment.make(move)
                log.append(move)
                move = _exchanging_move(moment, move[2])
    return tuple(moment.sets), tuple(log)


def _adding_move(moment, taker):
    addable = [thing for thing in range(len(moment.counts)) if moment.can_add(taker, thing)]
    return taker, None, moment.cheapest_next(taker, addable)


def _exchanging_move(moment, out):
    """Return the best allowed move of the first taker that has one in which the thing is taken out, or None.

    Before a thing is added nobody can exchange. Afterwards the load of just one thing is greater than it was: at
    first that of the added thing, behind an exchange that of the thing put in. By best exchanges it stays so that
    only who has this thing can have a reason to exchange, and only this thing. With each exchange the taker's cost
    falls, as seen at one more than the loads before the addition: so no taker has the same thing twice in the
    place of an earlier one, and there are at most T * size exchanges behind each addition.
    """
    for taker in range(len(moment.sets)):
        possible = [thing for thing in range(len(moment.counts)) if moment.can_exchange(taker, out, thing)]
        if len(possible) > 0:
            return taker, out, moment.cheapest_next(taker, possible)
    return None

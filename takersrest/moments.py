"""Moments of single moves: the sets of all takers, and the loads that these make."""

from takersrest.costs import cost_at
from takersrest.sets import count_sets, exchange, leave_out, put_in
from takersrest.smaller import free_sets


class Moment:
    """The sets of all takers of a game and the loads of all things."""

    def __init__(self, size, takers, sets):
        self.costs = [costs for _, costs in takers]
        self.free = [free_sets(offer) for offer, _ in takers]
        self.sets = list(sets)
        self.counts = count_sets(size, sets)

    def cost_now(self, taker, thing):
        """Return the taker's cost of the thing at its load."""
        return cost_at(self.costs[taker], thing, self.counts[thing])

    def cost_next(self, taker, thing):
        """Return the taker's cost of the thing at one more than its load."""
        return cost_at(self.costs[taker], thing, self.counts[thing] + 1)

    def can_add(self, taker, thing):
        """Tell whether the taker may add the thing."""
        things = self.sets[taker]
        return thing not in things and put_in(things, thing) in self.free[taker]

    def can_exchange(self, taker, out, into):
        """Tell whether the taker may put one thing in the place of another one."""
        things = self.sets[taker]
        if out not in things or into in things or exchange(things, out, into) not in self.free[taker]:
            return False
        return self.cost_next(taker, into) < self.cost_now(taker, out)

    def is_allowed(self, move):
        """Tell whether the move is allowed."""
        taker, out, into = move
        return self.can_add(taker, into) if out is None else self.can_exchange(taker, out, into)

    def make(self, move):
        """Make an allowed move."""
        taker, out, into = move
        kept = self.sets[taker]
        if out is not None:
            kept = leave_out(kept, out)
            self.counts[out] -= 1
        self.sets[taker] = put_in(kept, into)
        self.counts[into] += 1


def bring_in(moment, taker):
    """Let the taker add things until it has a lot, the others exchange in between; return the list of all moves.

    All offers are smooth, and at the beginning no exchange is allowed. Behind each addition the load of just one
    thing is greater than it was: at first that of the added thing, behind an exchange that of the thing put in. By
    best exchanges it stays so that only who has this thing can have a reason to exchange, and only this thing. With
    each exchange the taker's cost falls, as seen at one more than the loads before the addition: so no taker has
    the same thing twice in the place of an earlier one, and there are at most T * size exchanges behind each
    addition, T being the sum of the ranks.
    """
    made = []
    move = _adding_move(moment, taker)
    while move is not None:
        moment.make(move)
        made.append(move)
        move = _leaving_move(moment, move[2])
        if move is None:
            move = _adding_move(moment, taker)
    return made


def _adding_move(moment, taker):
    """Return the cheapest allowed addition of the taker, or None if it has a lot."""
    possible = [thing for thing in range(len(moment.counts)) if moment.can_add(taker, thing)]
    if len(possible) == 0:
        return None
    return taker, None, min(possible, key=lambda thing: moment.cost_next(taker, thing))


def _leaving_move(moment, out):
    """Return the best allowed move of the first taker that has one in which the thing is taken out, or None."""
    for taker in range(len(moment.sets)):
        possible = [thing for thing in range(len(moment.counts)) if moment.can_exchange(taker, out, thing)]
        if len(possible) > 0:
            return taker, out, min(possible, key=lambda thing: moment.cost_next(taker, thing))
    return None


def fill_gaps(moment, things):
    """Take away the things of somebody who leaves, the others exchange in between; return the list of all moves.

    The moment is that of the others. All offers are smooth, and as long as the things of the one who leaves add to
    the loads, no exchange is allowed. Behind the loss of each thing the load of just one thing is less than it was:
    at first that of the lost thing, behind an exchange that of the thing taken out. By best exchanges it stays so
    that only this thing can give a reason to exchange for it. With each exchange the taker's cost falls, as seen at
    the loads before the loss: so there are at most T * size exchanges behind each loss, as in bring_in.
    """
    for thing in things:
        moment.counts[thing] += 1
    made = []
    for thing in things:
        moment.counts[thing] -= 1
        move = _filling_move(moment, thing)
        while move is not None:
            moment.make(move)
            made.append(move)
            move = _filling_move(moment, move[1])
    return made


def _filling_move(moment, into):
    """Return the best allowed move of the first taker that has one in which the thing is put in, or None."""
    for taker, lot in enumerate(moment.sets):
        possible = [thing for thing in lot if moment.can_exchange(taker, thing, into)]
        if len(possible) > 0:
            return taker, max(possible, key=lambda thing: moment.cost_now(taker, thing)), into
    return None

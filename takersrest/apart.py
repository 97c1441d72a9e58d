"""Lots that are apart: no thing is in more of them than a limit tells, or a bar shows that this cannot be."""

from takersrest.chains import chains_of, least_from
from takersrest.games import loads
from takersrest.plays import first_lots
from takersrest.sets import difference


def apart(offers, limit):
    """Return a choice of one lot of each offer in which no load is greater than limit, or None if there is none."""
    choice = least_crowded(offers, limit, first_lots(offers))
    return choice if bar_behind(offers, limit, choice) is None else None


def bar(offers, limit):
    """Return a bar, or None if there is none."""
    return bar_behind(offers, limit, least_crowded(offers, limit, first_lots(offers)))


def least_crowded(offers, limit, choice):
    """Return a choice in which the loads go beyond the limit as little as can be, found from the given choice."""
    return least_from(_limited_game(offers, limit), choice)


def bar_behind(offers, limit, choice):
    """Return a bar, or None if no load is greater than limit. The choice is one that least_crowded has returned."""
    game = _limited_game(offers, limit)
    chains = chains_of(game, choice)
    starts = [thing for thing, load in enumerate(loads(game, choice)) if load > limit]
    if len(starts) == 0:
        return None
    # No chain leads out of these things, so that no choice has fewer of them; and each has at least the limit.
    reached = [thing for start in starts for thing in chains[start]]
    return difference(tuple(range(offers[0][0])), reached)


def _limited_game(offers, limit):
    # The crowd sum tells by how much the loads go beyond the limit.
    row = tuple([0 if load <= limit else 1 for load in range(1, len(offers) + 1)])
    costs = tuple([row for _ in range(offers[0][0])])
    return tuple([(offer, costs) for offer in offers])

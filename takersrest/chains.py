"""Chains of exchanges, for games with takers, with costs alike and with smooth offers.

In a chain one taker puts a second thing in the place of a first one, one taker a third thing in the place of the
second one, and so on. So the load of the first thing falls by one, that of the last one rises by one, and all others
stay. If no chain makes the crowd sum less, then no choice has a lesser one.
"""

from takersrest.costs import cost_at
from takersrest.games import loads
from takersrest.offers import known_lots, replacements
from takersrest.plays import with_lot
from takersrest.sets import exchange


def chains_of(game, choice):
    """Return a dict that gives each thing of a lot all things that chains lead to from it.

    These are the keys of a dict again; each has the last step (taker, out) of a shortest chain, the first thing None.
    """
    exchanges = _exchanges_of(game, choice)
    return {start: _steps_from(exchanges, start) for start in sorted({thing for lot in choice for thing in lot})}


def _exchanges_of(game, choice):
    """Return, for each thing, the list of the pairs (taker, into) of all exchanges in which it is taken out."""
    found = [[] for _ in range(game[0][0][0])]
    for taker, lot in enumerate(choice):
        offer = game[taker][0]
        known = known_lots(offer)
        for out in lot:
            found[out].extend([(taker, into) for into in replacements(offer, known, lot, out)])
    return found


def _steps_from(exchanges, start):
    steps = {start: None}
    reached = [start]
    while len(reached) > 0:
        further = []
        for out in reached:
            for taker, into in exchanges[out]:
                if into not in steps:
                    steps[into] = (taker, out)
                    further.append(into)
        reached = further
    return steps


def lessened(game, choice):
    """Return the choice behind the chain that lessens the crowd sum most, or None if none lessens it."""
    costs = game[0][1]
    counts = loads(game, choice)
    chains = chains_of(game, choice)
    changes = [
        (cost_at(costs, end, counts[end] + 1) - cost_at(costs, start, counts[start]), start, end)
        for start in chains for end in chains[start] if end != start
    ]
    change, first, last = min(changes, default=(0, 0, 0))
    return _behind_chain(choice, chains[first], last) if change < 0 else None


def _behind_chain(choice, steps, end):
    # All exchanges of one taker can be made at once because the chain is a shortest one.
    reached = choice
    into = end
    while steps[into] is not None:
        taker, out = steps[into]
        reached = with_lot(reached, taker, exchange(reached[taker], out, into))
        into = out
    return reached


def least_from(game, choice):
    """Return a choice with the least crowd sum of all, found by chains from this choice."""
    reached = choice
    better = lessened(game, reached)
    # This comes to an end soon: each chain replaces a cost at some load by a lesser one of these few costs.
    while better is not None:
        reached = better
        better = lessened(game, reached)
    return reached


def fitting_prices(game, choice):
    """Return a price row that fits the choice, if there is one: with the least prices that are not too low."""
    costs = game[0][1]
    counts = loads(game, choice)
    chains = chains_of(game, choice)
    prices = []
    for thing in range(len(counts)):
        # Along a chain prices may not fall; a thing that no chain leads to is in no lot.
        least = [cost_at(costs, start, counts[start]) for start in chains if thing in chains[start]]
        prices.append(max(least, default=cost_at(costs, thing, 1)))
    return tuple(prices)

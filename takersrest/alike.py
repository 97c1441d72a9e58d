"""Games whose costs are alike: crowd sums, settling, totals, and the dear game."""

from takersrest.costs import cost_at, make_costs, straight_costs
from takersrest.errors import UnlikeCosts
from takersrest.games import choices, first_gain, loads, make_game, pay
from takersrest.offers import make_offer
from takersrest.plays import with_lot


def are_alike(game):
    """Tell whether all takers have the same cost table."""
    return all(costs == game[0][1] for _, costs in game)


def check_alike(game):
    """Raise UnlikeCosts if the costs of the game are not alike."""
    if not are_alike(game):
        raise UnlikeCosts("the costs of the game are not alike")


def crowd_sum(game, choice):
    """Return the sum of the costs of all things at the loads 1, 2, .. up to their load. Raises UnlikeCosts."""
    check_alike(game)
    counts = loads(game, choice)
    return sum([cost_at(game[0][1], thing, load + 1) for thing, count in enumerate(counts) for load in range(count)])


def settle(game, choice):
    """Return the choice at rest that settling leads to, and the first gains that were taken. Raises UnlikeCosts."""
    check_alike(game)
    reached = choice
    steps = []
    step = first_gain(game, reached)
    # This comes to an end: with each step the crowd sum becomes less.
    while step is not None:
        reached = with_lot(reached, step[0], step[1])
        steps.append(step)
        step = first_gain(game, reached)
    return reached, tuple(steps)


def tolled(costs):
    """Return the tolled cost table. Raises FallingCosts with the first thing whose tolled row falls."""
    room = len(costs[0]) if len(costs) > 0 else 0
    return make_costs([_tolled_row(row) for row in costs], room)


def _tolled_row(row):
    # All takers together pay load * cost; a toll makes the next one pay what this grows by.
    together = [0] + [load * cost for load, cost in enumerate(row, start=1)]
    return [together[at + 1] - together[at] for at in range(len(row))]


def total(game, choice):
    """Return the sum of what all takers pay."""
    return sum([pay(game, choice, taker) for taker in range(len(game))])


def least_total(game):
    """Return the least total of all choices."""
    return min([total(game, choice) for choice in choices(game)])


def dear_game():
    """Return the dear game, in which a choice at rest is as dear as it can be with costs alike and straight."""
    costs = straight_costs(tuple([(1, 0) for _ in range(6)]), 3)
    return make_game([(_dear_offer(taker), costs) for taker in range(3)])


def _dear_offer(taker):
    after = (taker + 1) % 3
    return make_offer(6, [(taker, 3 + taker), (after, (taker + 2) % 3, 3 + after)])

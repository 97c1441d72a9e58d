"""Heavy games: takers with weights and one cost table for all."""

from takersrest.costs import cost_at
from takersrest.errors import BadWeight, SmallRoom, UnlikeSizes
from takersrest.plays import (
    all_choices, all_rests, check_smooth, count_loads, first_exchange_for, first_gain_for, gain_for, prices_for,
    with_lot,
)
from takersrest.pricing import cheapest, price
from takersrest.sets import exchange


def make_heavy(costs, takers):
    """Return the heavy game of these takers. Raises UnlikeSizes, BadWeight and SmallRoom."""
    for position, (offer, weight) in enumerate(takers):
        if offer[0] != len(costs):
            raise UnlikeSizes(position)
        if weight < 1:
            raise BadWeight(position)
    if len(costs) > 0 and len(costs[0]) < sum([weight for _, weight in takers]):
        raise SmallRoom(len(takers))
    return costs, tuple(takers)


def _players(game):
    costs, takers = game
    return [(offer, costs, weight) for offer, weight in takers]


def heavy_loads(game, choice):
    """Return the tuple of the heavy loads of all things."""
    return count_loads(len(game[0]), _players(game), choice)


def heavy_pay(game, choice, taker):
    """Return what the taker pays."""
    return price(choice[taker], heavy_prices(game, choice, taker))


def heavy_prices(game, choice, taker):
    """Return the prices of the taker: what each thing costs it if it has the thing and the others keep their lots."""
    return prices_for(_players(game), choice, taker)


def heavy_best_lot(game, choice, taker):
    """Return the cheapest lot of the taker's offer at its prices."""
    return cheapest(game[1][taker][0], heavy_prices(game, choice, taker))


def heavy_gain(game, choice, taker):
    """Return what the taker pays minus the price of its best lot."""
    return gain_for(_players(game), choice, taker)


def heavy_first_gain(game, choice):
    """Return the pair of the first taker who gains and its best lot, or None if the choice is at rest."""
    return first_gain_for(_players(game), choice)


def heavy_is_rest(game, choice):
    """Tell whether nobody gains."""
    return heavy_first_gain(game, choice) is None


def heavy_choices(game):
    """Return the tuple of all choices in ascending order."""
    return tuple(all_choices(_players(game)))


def heavy_rests(game):
    """Return the tuple of all choices at rest in ascending order."""
    return tuple(all_rests(_players(game)))


def cost_row(game, choice):
    """Return the costs of all things of all lots at their heavy loads, in descending order."""
    counts = heavy_loads(game, choice)
    return tuple(sorted([cost_at(game[0], thing, counts[thing]) for lot in choice for thing in lot], reverse=True))


def heavy_settle(game, choice):
    """Return a choice at rest and the exchanges that lead from the choice to it. Raises NotSmooth."""
    check_smooth([offer for offer, _ in game[1]])
    players = _players(game)
    reached = choice
    moves = []
    move = first_exchange_for(players, reached)
    # This comes to an end: with each exchange the cost row becomes less.
    while move is not None:
        taker, out, into = move
        reached = with_lot(reached, taker, exchange(reached[taker], out, into))
        moves.append(move)
        move = first_exchange_for(players, reached)
    return reached, tuple(moves)

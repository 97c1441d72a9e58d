"""Games: what takers pay in a choice, who gains by another lot, and which choices are at rest."""

from takersrest.errors import SmallRoom, UnlikeSizes
from takersrest.plays import (
    all_choices, all_rests, count_loads, first_exchange_for, first_gain_for, gain_for, prices_for,
)
from takersrest.pricing import cheapest, price


def make_game(takers):
    """Return the game of these takers. Raises UnlikeSizes and SmallRoom with the first wrong taker."""
    for position, (offer, costs) in enumerate(takers):
        size = offer[0]
        if size != takers[0][0][0] or size != len(costs):
            raise UnlikeSizes(position)
        if size > 0 and len(costs[0]) < len(takers):
            raise SmallRoom(position)
    return tuple(takers)


def _players(game):
    return [(offer, costs, 1) for offer, costs in game]


def loads(game, choice):
    """Return the tuple of the loads of all things; it is empty for a game without takers."""
    size = game[0][0][0] if len(game) > 0 else 0
    return count_loads(size, _players(game), choice)


def pay(game, choice, taker):
    """Return what the taker pays."""
    return price(choice[taker], own_prices(game, choice, taker))


def own_prices(game, choice, taker):
    """Return the prices of the taker: what each thing costs it if it has the thing and the others keep their lots."""
    return prices_for(_players(game), choice, taker)


def best_lot(game, choice, taker):
    """Return the cheapest lot of the taker's offer at its prices."""
    return cheapest(game[taker][0], own_prices(game, choice, taker))


def gain(game, choice, taker):
    """Return what the taker pays minus the price of its best lot."""
    return gain_for(_players(game), choice, taker)


def first_gain(game, choice):
    """Return the pair of the first taker who gains and its best lot, or None if the choice is at rest."""
    return first_gain_for(_players(game), choice)


def single_gain(game, choice):
    """Return the first taker whose lot has a better exchange, with its best one, as a triple, or None."""
    return first_exchange_for(_players(game), choice)


def is_rest(game, choice):
    """Tell whether nobody gains."""
    return first_gain(game, choice) is None


def choices(game):
    """Return the tuple of all choices in ascending order."""
    return tuple(all_choices(_players(game)))


def rests(game):
    """Return the tuple of all choices at rest in ascending order."""
    return tuple(all_rests(_players(game)))

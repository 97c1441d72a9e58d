"""Posted prices, for games with takers whose costs are alike: prices that make a choice the best for everybody."""

from takersrest.alike import check_alike
from takersrest.chains import fitting_prices, least_from, lessened
from takersrest.costs import cost_at
from takersrest.games import loads
from takersrest.plays import check_smooth, first_lots
from takersrest.pricing import cheapest, price


def better_choice(game, choice):
    """Return a choice with a lesser crowd sum, or None if there is none. Raises UnlikeCosts and NotSmooth."""
    _check(game)
    return lessened(game, choice)


def best_choice(game):
    """Return a choice with the least crowd sum. Raises UnlikeCosts and NotSmooth."""
    _check(game)
    return least_from(game, first_lots([offer for offer, _ in game]))


def posted_prices(game, choice):
    """Return a price row that fits the choice, or None if there is none. Raises UnlikeCosts and NotSmooth."""
    _check(game)
    prices = fitting_prices(game, choice)
    return prices if _fits(game, choice, prices) else None


def judge_posted(game, choice, prices):
    """Tell whether the price row fits the choice. Raises UnlikeCosts and NotSmooth."""
    _check(game)
    return _fits(game, choice, prices)


def _check(game):
    check_alike(game)
    check_smooth([offer for offer, _ in game])


def _fits(game, choice, prices):
    counts = loads(game, choice)
    return _are_cheapest(game, choice, prices) and all(
        [_is_between(game, thing, count, prices[thing]) for thing, count in enumerate(counts)]
    )


def _are_cheapest(game, choice, prices):
    offers = [offer for offer, _ in game]
    return all([price(lot, prices) == price(cheapest(offer, prices), prices) for offer, lot in zip(offers, choice)])


def _is_between(game, thing, load, amount):
    costs = game[0][1]
    if load > 0 and amount < cost_at(costs, thing, load):
        return False
    return load == len(game) or amount <= cost_at(costs, thing, load + 1)

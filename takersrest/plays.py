"""What games and heavy games have in common.

Both are told here by their players: a list of triples (offer, costs, weight). In a game each weight is 1.
"""

from takersrest.costs import cost_at
from takersrest.errors import NotSmooth
from takersrest.offers import is_smooth
from takersrest.pricing import best_exchange, cheapest, price


def all_choices(players):
    """Return the list of all choices in ascending order."""
    found = [()]
    for player in players:
        found = [choice + (lot,) for choice in found for lot in player[0][1]]
    return found


def first_lots(offers):
    """Return the choice of the first lot of each offer."""
    return tuple([lots[0] for _, lots in offers])


def with_lot(choice, taker, lot):
    """Return the choice in which the taker has this lot and the others keep theirs."""
    return choice[:taker] + (lot,) + choice[taker + 1:]


def count_loads(size, players, choice):
    """Return the tuple of the sums of the weights of the players whose lot has a thing, for all things."""
    counts = [0 for _ in range(size)]
    for player, lot in zip(players, choice):
        for thing in lot:
            counts[thing] += player[2]
    return tuple(counts)


def prices_for(players, choice, taker):
    """Return the prices of the taker in the choice."""
    offer, costs, weight = players[taker]
    counts = count_loads(offer[0], players, choice)
    lot = choice[taker]
    added = [0 if thing in lot else weight for thing in range(offer[0])]
    return tuple([cost_at(costs, thing, counts[thing] + more) for thing, more in enumerate(added)])


def gain_for(players, choice, taker):
    """Return what the taker pays minus the price of its best lot."""
    prices = prices_for(players, choice, taker)
    return price(choice[taker], prices) - price(cheapest(players[taker][0], prices), prices)


def first_gain_for(players, choice):
    """Return the pair of the first taker who gains and its best lot, or None if nobody gains."""
    for taker, player in enumerate(players):
        prices = prices_for(players, choice, taker)
        best = cheapest(player[0], prices)
        if price(best, prices) < price(choice[taker], prices):
            return taker, best
    return None


def first_exchange_for(players, choice):
    """Return the first taker whose lot has a better exchange, with its best one, as a triple, or None."""
    for taker, player in enumerate(players):
        found = best_exchange(player[0], choice[taker], prices_for(players, choice, taker))
        if found is not None:
            return taker, found[0], found[1]
    return None


def all_rests(players):
    """Return the list of all choices at rest in ascending order."""
    return [choice for choice in all_choices(players) if first_gain_for(players, choice) is None]


def check_smooth(offers):
    """Raise NotSmooth with the position of the first offer that is not smooth."""
    for taker, offer in enumerate(offers):
        if not is_smooth(offer):
            raise NotSmooth(taker)

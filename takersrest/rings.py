"""Rings of choices in which each step pays off, and gains that several takers have only together."""

from takersrest.builders import choose
from takersrest.games import choices, make_game, pay


def round_game():
    """Return a game of smooth offers and a ring of it.

    Each taker has two things of its own interest, its first one and its second one, which is the first one of the
    next taker. Alone it would rather have the second one, with somebody else beside it the first one.
    """
    game = make_game([(choose(3, 1), _round_costs(taker)) for taker in range(3)])
    firsts = [(0, 0, 1), (0, 1, 1), (0, 1, 0), (1, 1, 0), (1, 0, 0), (1, 0, 1)]
    return game, tuple([_round_choice(seconds) for seconds in firsts])


def _round_costs(taker):
    rows = {taker: (2, 3, 3), (taker + 1) % 3: (1, 4, 4), (taker + 2) % 3: (5, 5, 5)}
    return tuple([rows[thing] for thing in range(3)])


def _round_choice(seconds):
    return tuple([((taker + second) % 3,) for taker, second in enumerate(seconds)])


def is_ring(game, ring):
    """Tell whether the tuple of choices is a ring of the game."""
    if len(ring) < 3:
        return False
    return all([_is_step(game, ring[at - 1], ring[at]) for at in range(len(ring))])


def _is_step(game, choice, reached):
    movers = _movers(choice, reached)
    return len(movers) == 1 and _all_pay_less(game, movers, choice, reached)


def _movers(choice, reached):
    return [taker for taker, lot in enumerate(choice) if lot != reached[taker]]


def _all_pay_less(game, takers, choice, reached):
    return all([pay(game, reached, taker) < pay(game, choice, taker) for taker in takers])


def joint_gain(game, choice):
    """Return a joint gain as a pair (takers, lots), or None if there is none."""
    for reached in choices(game):
        # Who keeps its lot can be left out of a joint gain: so all takers of it get other lots.
        movers = _movers(choice, reached)
        if len(movers) > 0 and _all_pay_less(game, movers, choice, reached):
            return tuple(movers), tuple([reached[taker] for taker in movers])
    return None

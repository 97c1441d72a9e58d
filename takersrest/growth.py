"""Logs of single moves, and games that grow thing by thing to a choice at rest."""

from takersrest.errors import BadMove
from takersrest.moments import Moment, bring_in
from takersrest.plays import check_smooth


def replay(game, log):
    """Return the tuple of the sets behind the log. Raises BadMove with the first move that is not allowed."""
    moment = _empty_moment(game)
    for position, move in enumerate(log):
        if not moment.is_allowed(move):
            raise BadMove(position)
        moment.make(move)
    return tuple(moment.sets)


def grow(game):
    """Return a choice at rest and a careful log that leads to it. Raises NotSmooth."""
    check_smooth([offer for offer, _ in game])
    moment = _empty_moment(game)
    log = []
    for taker in range(len(game)):
        log.extend(bring_in(moment, taker))
    return tuple(moment.sets), tuple(log)


def _empty_moment(game):
    size = game[0][0][0] if len(game) > 0 else 0
    return Moment(size, game, [() for _ in game])

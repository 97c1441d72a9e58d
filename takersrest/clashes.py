"""Offers that are not smooth: tight papers, and games of two takers without any choice at rest."""

from takersrest.builders import renamed
from takersrest.errors import SmoothOffer
from takersrest.games import rests
from takersrest.heavy import heavy_rests
from takersrest.offers import first_fault
from takersrest.sets import difference, lies_within, union

# The costs of the things a, b and c of a tight paper, first for taker 0, then for taker 1. The a of each one is the
# b of the other one. Whatever the other one does best, each one does best with a alone or with b and c alone:
# taker 0 with a exactly if the other one has its a, taker 1 with a exactly if the other one has its b and c.
FIRST_ROWS = ((2, 10), (1, 4), (1, 1))
SECOND_ROWS = ((3, 3), (1, 1), (1, 4))

# The same for the weights 1 and 2, with costs for all: those of the things a, b and c of taker 0.
HEAVY_ROWS = ((12, 12, 12), (1, 14, 14), (1, 1, 10))

# More than b and c can cost together, so that nobody does best with a lot outside of the two lots of the paper.
DEAR = 100


def tight(offer):
    """Return a tight paper for the offer. Raises SmoothOffer."""
    fault = first_fault(offer)
    if fault is None:
        raise SmoothOffer("a smooth offer has no tight paper")
    lot, out, other = fault
    whole = union(lot, other)
    around = [row for row in offer[1] if out not in row and lies_within(row, whole)]
    near = min(around, key=lambda row: len(difference(row, lot)))
    new = difference(near, lot)
    if len(new) > 1:
        # Within the union of lot and near a lot without out brings in all that near does, for no lot brings less.
        return out, new[0], new[1], lot, near
    # It brings in just one thing and is no exchange of the lot, so it lacks two things of it or more.
    gone = difference(lot, near)
    return new[0], gone[0], gone[1], near, lot


def judge_tight(offer, paper):
    """Tell whether the paper is a tight paper for the offer."""
    a, b, c, first, second = paper
    if first not in offer[1] or second not in offer[1] or b == c:
        return False
    if a not in first or b in first or c in first or a in second or b not in second or c not in second:
        return False
    whole = union(first, second)
    return all(a in lot or (b in lot and c in lot) for lot in offer[1] if lies_within(lot, whole))


def clash(offer):
    """Return a game of two takers with copies of the offer and no choice at rest, and the names. Raises SmoothOffer."""
    paper = tight(offer)
    names = _clash_names(offer[0], paper)
    size = _clash_size(offer[0])
    takers = []
    for row, costs in zip(names, (FIRST_ROWS, SECOND_ROWS)):
        table = [(0, 0) for _ in range(size)]
        _fill_in(table, paper, row, costs)
        takers.append((renamed(offer, row, size), tuple(table)))
    return tuple(takers), names


def heavy_clash(offer):
    """Return a heavy game of weights 1 and 2, as clash does, and the names. Raises SmoothOffer."""
    paper = tight(offer)
    names = _clash_names(offer[0], paper)
    size = _clash_size(offer[0])
    table = [(0, 0, 0) for _ in range(size)]
    a_row, b_row, c_row = HEAVY_ROWS
    _fill_in(table, paper, names[0], (a_row, b_row, c_row))
    _fill_in(table, paper, names[1], (b_row, a_row, c_row))
    takers = tuple([(renamed(offer, row, size), weight) for row, weight in zip(names, (1, 2))])
    return (tuple(table), takers), names


def _clash_size(size):
    # The takers share the three things that the paper names.
    return 2 * size - 3


def _clash_names(size, paper):
    a, b, c = paper[:3]
    shared = {a: b, b: a, c: c}
    others = [thing for thing in range(size) if thing not in shared]
    for number, thing in enumerate(others):
        shared[thing] = size + number
    return tuple(range(size)), tuple([shared[thing] for thing in range(size)])


def _fill_in(table, paper, names, rows):
    """Put the rows of a, b and c into the table, and make the things dear that are in neither lot of the paper."""
    a, b, c, first, second = paper
    room = len(rows[0])
    for thing, name in enumerate(names):
        if thing not in first and thing not in second:
            table[name] = tuple([DEAR for _ in range(room)])
    for thing, row in zip((a, b, c), rows):
        table[names[thing]] = row


def judge_clash(offer, game, names):
    """Tell whether the game and the names are a clash of the offer."""
    if len(game) != 2 or not _are_renamed(offer, [other for other, _ in game], names):
        return False
    if any(cost < 0 for _, costs in game for row in costs for cost in row):
        return False
    return len(rests(game)) == 0


def judge_heavy_clash(offer, game, names):
    """Tell whether the heavy game and the names are a heavy clash of the offer."""
    costs, takers = game
    if [weight for _, weight in takers] != [1, 2] or not _are_renamed(offer, [other for other, _ in takers], names):
        return False
    if any(cost < 0 for row in costs for cost in row):
        return False
    return len(heavy_rests(game)) == 0


def _are_renamed(offer, others, names):
    """Tell whether the two other offers are the offer renamed with the names, and not of more than twice its size."""
    size = others[0][0]
    if len(names) != 2 or size > 2 * offer[0]:
        return False
    return all(_is_renamed(offer, other, row) for other, row in zip(others, names))


def _is_renamed(offer, other, names):
    size = other[0]
    if len(names) != offer[0] or len(set(names)) != len(names):
        return False
    if any(name < 0 or name >= size for name in names):
        return False
    return renamed(offer, names, size) == other

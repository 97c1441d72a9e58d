"""Ways to build offers: from numbers, from other offers and from roads."""

from takersrest.errors import NotJoined
from takersrest.greatest import greatest_sets
from takersrest.routes import find_pairings, find_ways
from takersrest.sets import subsets


def choose(size, count):
    """Return the offer of all sets with count of the things."""
    return size, tuple(subsets(list(range(size)), count))


def parts(groups):
    """Return the offer of all sets that have, of each group (count, number), exactly number things."""
    size = 0
    lots = [()]
    for count, number in groups:
        chosen = subsets(list(range(size, size + count)), number)
        lots = [lot + part for lot in lots for part in chosen]
        size += count
    return size, tuple(sorted(lots))


def beside(first, second):
    """Return the offer of both offers, the things of the second one behind those of the first one."""
    size, lots = first
    moved = [tuple([size + thing for thing in lot]) for lot in second[1]]
    return size + second[0], tuple(sorted([lot + other for lot in lots for other in moved]))


def renamed(offer, names, size):
    """Return the offer of this size in which each thing bears its name."""
    return size, tuple(sorted([tuple(sorted([names[thing] for thing in lot])) for lot in offer[1]]))


def trees(points, roads):
    """Return the offer of all sets of points - 1 roads that join all points. Raises NotJoined."""
    lots = greatest_sets(len(roads), lambda things: _is_without_rounds(points, roads, things))
    if len(lots[0]) != points - 1:
        raise NotJoined("no roads join all points to each other")
    return len(roads), lots


def _is_without_rounds(points, roads, things):
    marks = list(range(points))
    for thing in things:
        first, second = roads[thing]
        old = marks[first]
        new = marks[second]
        # Points with one mark are joined already, so that this road would close a round.
        if old == new:
            return False
        marks = [new if mark == old else mark for mark in marks]
    return True


def ways(points, roads, start, end):
    """Return the offer of all ways from start to end that meet no point twice. Raises NoWay."""
    return len(roads), tuple(sorted([tuple(sorted(used)) for _, used in find_ways(roads, start, end)]))


def pairings(points, roads):
    """Return the offer of all sets of roads that meet each point exactly once. Raises NoPairing."""
    return len(roads), tuple(sorted(find_pairings(points, roads)))

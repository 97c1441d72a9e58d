"""The lines of ways and the mates of pairings."""

from takersrest.routes import find_pairings, find_ways


def way_lines(points, roads, start, end):
    """Return the tuple of the lines of all ways in ascending order. Raises NoWay."""
    return tuple(sorted({line for line, _ in find_ways(roads, start, end)}))


def pair_mates(points, roads):
    """Return the tuple of the mates of all pairings in ascending order. Raises NoPairing."""
    return tuple(sorted({_mates(roads, used) for used in find_pairings(points, roads)}))


def _mates(roads, used):
    return tuple(sorted([tuple(sorted(roads[position])) for position in used]))

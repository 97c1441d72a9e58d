"""The ways and pairings that roads allow."""

from takersrest.errors import NoPairing, NoWay


def find_ways(roads, start, end):
    """Return the list of all ways, each as a pair of its line and the positions of its roads.

    Raises NoWay if there is none.
    """
    found = []
    begun = [((start,), ())]
    while len(begun) > 0:
        line, used = begun.pop()
        if line[-1] == end:
            found.append((line, used))
        else:
            begun.extend(_next_steps(roads, line, used))
    if len(found) == 0:
        raise NoWay("no way leads from the start to the end")
    return found


def _next_steps(roads, line, used):
    steps = []
    for position, road in enumerate(roads):
        point = _other_end(road, line[-1])
        # A road with two equal ends leads back to a point that is met already.
        if point is not None and point not in line:
            steps.append((line + (point,), used + (position,)))
    return steps


def _other_end(road, point):
    first, second = road
    if point == first:
        return second
    if point == second:
        return first
    return None


def find_pairings(points, roads):
    """Return the list of all pairings, each as the set of the positions of its roads.

    Raises NoPairing if there is none.
    """
    begun = [((), ())]
    for point in range(points):
        begun = [longer for met, used in begun for longer in _with_point(roads, point, met, used)]
    if len(begun) == 0:
        raise NoPairing("no set of roads meets each point exactly once")
    return [tuple(sorted(used)) for _, used in begun]


def _with_point(roads, point, met, used):
    if point in met:
        return [(met, used)]
    longer = []
    for position, road in enumerate(roads):
        other = _other_end(road, point)
        if other is not None and other != point and other not in met:
            longer.append((met + (point, other), used + (position,)))
    return longer

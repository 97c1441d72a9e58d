"""Sets of things: tuples in ascending order without duplicates."""

from itertools import combinations


def lies_within(inner, outer):
    """Tell whether all things of inner are in outer."""
    return all(thing in outer for thing in inner)


def leave_out(things, out):
    """Return the set without the thing out."""
    return tuple([thing for thing in things if thing != out])


def put_in(things, into):
    """Return the set with the thing into, which it does not have yet."""
    return tuple(sorted(things + (into,)))


def exchange(things, out, into):
    """Return the set without out and with into, which it does not have yet."""
    return put_in(leave_out(things, out), into)


def fewer_by_one(things):
    """Return the list of all sets that have one thing fewer."""
    return [leave_out(things, thing) for thing in things]


def subsets(things, count):
    """Return the list of all sets of count of the things, in ascending order."""
    row = list(things)
    return list(combinations(row, count))


def union(first, second):
    """Return the set of all things that are in one of the two sets or in both."""
    return tuple(sorted(set(first + second)))


def difference(first, second):
    """Return the set of the things of first that are not in second."""
    return tuple([thing for thing in first if thing not in second])


def count_sets(size, sets):
    """Return the list that has, for each thing, the number of the sets with it."""
    return [len([things for things in sets if thing in things]) for thing in range(size)]

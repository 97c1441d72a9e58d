"""What several tests need: the words of the document, tried on every small offer."""

from fractions import Fraction
from itertools import combinations


def all_sets(size):
    """All sets of things less than size."""
    return [chosen for count in range(size + 1) for chosen in combinations(range(size), count)]


def is_nested(rows):
    return any(a != b and set(a) <= set(b) for a in rows for b in rows)


def antichains(rows):
    """All lists of the rows, the empty one too, in which no set lies within another one."""
    found = [()]
    for row in rows:
        found = found + [
            chosen + (row,)
            for chosen in found
            if not any(set(row) <= set(other) or set(other) <= set(row) for other in chosen)
        ]
    return found


def all_offers(size):
    """Every offer of the size."""
    return [(size, tuple(sorted(lots))) for lots in antichains(all_sets(size)) if lots]


def some_offers():
    """Every offer of at most four things, and some greater ones."""
    offers = [offer for size in range(5) for offer in all_offers(size)]
    offers.append((6, ((0, 1, 2), (0, 3), (1, 3, 4, 5), (2, 4))))
    offers.append((6, tuple(combinations(range(6), 3))))
    offers.append((7, ((0, 1, 2, 3, 4), (0, 5), (1, 2, 5), (3, 4, 5))))
    offers.append((12, tuple(combinations(range(12), 2))))
    offers.append((12, (tuple(range(12)),)))
    return offers


def is_offer(offer):
    size, lots = offer
    return (
        isinstance(offer, tuple)
        and isinstance(lots, tuple)
        and len(lots) > 0
        and list(lots) == sorted(set(lots))
        and all(is_set(size, lot) for lot in lots)
        and not is_nested(lots)
    )


def is_set(size, things):
    return (
        isinstance(things, tuple)
        and list(things) == sorted(set(things))
        and all(type(thing) is int and 0 <= thing < size for thing in things)
    )


def is_free_by_words(offer, things):
    return any(set(things) <= set(lot) for lot in offer[1])


def rank_by_words(offer, things):
    return max(len(set(things) & set(lot)) for lot in offer[1])


def swapped(lot, out, into):
    return tuple(sorted((set(lot) - {out}) | {into}))


def faults_by_words(offer):
    """All faults in ascending order."""
    lots = offer[1]
    return [
        (lot, out, other)
        for lot in lots
        for out in lot
        for other in lots
        if out not in other
        and not any(swapped(lot, out, into) in lots for into in other if into not in lot)
    ]


def is_smooth_by_words(offer):
    return faults_by_words(offer) == []


def circuits_by_words(offer):
    return tuple(sorted(
        things
        for things in all_sets(offer[0])
        if not is_free_by_words(offer, things)
        and all(is_free_by_words(offer, part) for part in combinations(things, len(things) - 1))
    ))


def have_fraction_rank(rows, things):
    """The rank of the columns, by elimination with fractions."""
    left = [[Fraction(row[thing]) for thing in things] for row in rows]
    found = 0
    for at in range(len(things)):
        pivot = next((row for row in left if row[at] != 0), None)
        if pivot is None:
            continue
        found += 1
        left = [
            [entry - row[at] / pivot[at] * other for entry, other in zip(row, pivot)]
            for row in left
            if row is not pivot
        ]
    return found

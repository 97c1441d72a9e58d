"""What several tests need: the words of the document, tried on every small offer."""

from fractions import Fraction
from itertools import combinations, product


def all_sets(size):
    """All sets of things less than size."""
    return [chosen for count in range(size + 1) for chosen in combinations(range(size), count)]


def is_nested(rows):
    return any(a != b and set(a) <= set(b) for a in rows for b in rows)


def antichains(rows):
    """All lists of the rows, the empty one too, in which no set lies within another one."""
    found = [()]
    for row in rows:
        found = found + [
            chosen + (row,)
            for chosen in found
            if not any(set(row) <= set(other) or set(other) <= set(row) for other in chosen)
        ]
    return found


def all_offers(size):
    """Every offer of the size."""
    return [(size, tuple(sorted(lots))) for lots in antichains(all_sets(size)) if lots]


def some_offers():
    """Every offer of at most four things, and some greater ones."""
    offers = [offer for size in range(5) for offer in all_offers(size)]
    offers.append((6, ((0, 1, 2), (0, 3), (1, 3, 4, 5), (2, 4))))
    offers.append((6, tuple(combinations(range(6), 3))))
    offers.append((7, ((0, 1, 2, 3, 4), (0, 5), (1, 2, 5), (3, 4, 5))))
    offers.append((12, tuple(combinations(range(12), 2))))
    offers.append((12, (tuple(range(12)),)))
    return offers


def is_offer(offer):
    size, lots = offer
    return (
        isinstance(offer, tuple)
        and isinstance(lots, tuple)
        and len(lots) > 0
        and list(lots) == sorted(set(lots))
        and all(is_set(size, lot) for lot in lots)
        and not is_nested(lots)
    )


def is_set(size, things):
    return (
        isinstance(things, tuple)
        and list(things) == sorted(set(things))
        and all(type(thing) is int and 0 <= thing < size for thing in things)
    )


def is_free_by_words(offer, things):
    return any(set(things) <= set(lot) for lot in offer[1])


def rank_by_words(offer, things):
    return max(len(set(things) & set(lot)) for lot in offer[1])


def swapped(lot, out, into):
    return tuple(sorted((set(lot) - {out}) | {into}))


def faults_by_words(offer):
    """All faults in ascending order."""
    lots = offer[1]
    return [
        (lot, out, other)
        for lot in lots
        for out in lot
        for other in lots
        if out not in other
        and not any(swapped(lot, out, into) in lots for into in other if into not in lot)
    ]


def is_smooth_by_words(offer):
    return faults_by_words(offer) == []


def circuits_by_words(offer):
    return tuple(sorted(
        things
        for things in all_sets(offer[0])
        if not is_free_by_words(offer, things)
        and all(is_free_by_words(offer, part) for part in combinations(things, len(things) - 1))
    ))


def have_fraction_rank(rows, things):
    """The rank of the columns, by elimination with fractions."""
    left = [[Fraction(row[thing]) for thing in things] for row in rows]
    found = 0
    for at in range(len(things)):
        pivot = next((row for row in left if row[at] != 0), None)
        if pivot is None:
            continue
        found += 1
        left = [
            [entry - row[at] / pivot[at] * other for entry, other in zip(row, pivot)]
            for row in left
            if row is not pivot
        ]
    return found


def random_numbers(seed):
    """A function that gives the next of a row of numbers, from 0 to less than its argument, always the same row."""
    state = [seed]

    def draw(many):
        state[0] = (state[0] * 1103515245 + 12345) & 0x7FFFFFFF
        return (state[0] >> 8) % many

    return draw


def some_smooth_offers():
    return [offer for offer in some_offers() if is_smooth_by_words(offer)]


def some_rough_offers():
    return [offer for offer in some_offers() if not is_smooth_by_words(offer)]


def exchanges_by_words(offer, lot):
    return [
        (out, into) for out in lot for into in range(offer[0])
        if into not in lot and swapped(lot, out, into) in offer[1]
    ]


def price_by_words(things, prices):
    total = 0
    for thing in things:
        total += prices[thing]
    return total


def some_prices(size, seed):
    """Some price rows: with prices below 0, equal ones and great ones."""
    draw = random_numbers(seed)
    rows = [tuple([value] * size) for value in (0, 1, -1)]
    rows += [tuple(draw(3) - 1 for _ in range(size)) for _ in range(3)]
    rows += [tuple(draw(9) - 4 for _ in range(size)) for _ in range(3)]
    rows.append(tuple((draw(5) - 2) * 10 ** 40 + draw(2) for _ in range(size)))
    return rows


def random_costs(draw, size, room, least, most):
    """A cost table with entries that rise by small steps from an entry of at least least."""
    return tuple(
        tuple(sorted(least + draw(most - least + 1) for _ in range(room)))
        for _ in range(size)
    )


def load_by_words(choice, thing):
    return len([lot for lot in choice if thing in lot])


def pay_by_words(game, choice, taker):
    costs = game[taker][1]
    return sum(costs[thing][load_by_words(choice, thing) - 1] for thing in choice[taker])


def changed_choice(choice, taker, lot):
    return choice[:taker] + (lot,) + choice[taker + 1:]


def pays_by_lot(game, choice, taker):
    """What the taker would pay for each lot of its offer if the others keep theirs."""
    return [pay_by_words(game, changed_choice(choice, taker, lot), taker) for lot in game[taker][0][1]]


def is_rest_by_words(game, choice):
    return all(
        pay_by_words(game, choice, taker) <= min(pays_by_lot(game, choice, taker))
        for taker in range(len(game))
    )


def random_game(draw, offers, takers, room, least=0, most=6):
    """A game of as many takers with offers from the list and costs of their own."""
    return tuple(
        (offer, random_costs(draw, offer[0], room, least, most))
        for offer in [offers[draw(len(offers))] for _ in range(takers)]
    )


def choices_of(game):
    return list(product(*[taker[0][1] for taker in game]))


def count_choices(offers):
    count = 1
    for _, lots in offers:
        count *= len(lots)
    return count


def crowd_sum_by_words(game, choice):
    if not game:
        return 0
    return sum(
        row[load - 1]
        for thing, row in enumerate(game[0][1])
        for load in range(1, load_by_words(choice, thing) + 1)
    )


def fits_by_words(game, choice, prices):
    """Whether the price row fits the choice, by the words of point 41."""
    for (offer, _), lot in zip(game, choice):
        if any(price_by_words(other, prices) < price_by_words(lot, prices) for other in offer[1]):
            return False
    for thing, row in enumerate(game[0][1]):
        load = load_by_words(choice, thing)
        if load >= 1 and prices[thing] < row[load - 1]:
            return False
        if load < len(game) and prices[thing] > row[load]:
            return False
    return True


def ranks_of(offers, things):
    return sum(rank_by_words(offer, things) for offer in offers)


def is_bar_by_words(offers, limit, things):
    """Whether the set is a bar, by the words of point 35."""
    size = offers[0][0]
    missing = len([thing for thing in range(size) if thing not in things])
    everything = tuple(range(size))
    return is_set(size, things) and limit * missing + ranks_of(offers, things) < ranks_of(offers, everything)


def smooth_by_size():
    """A list that has at each size up to 7 all of the smooth offers of this size in some_smooth_offers."""
    found = [[] for _ in range(8)]
    for offer in some_smooth_offers():
        if offer[0] < 8:
            found[offer[0]].append(offer)
    return found

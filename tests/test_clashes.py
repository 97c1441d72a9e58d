import unittest
from itertools import combinations, permutations, product

from takersrest.builders import choose, renamed, ways
from takersrest.clashes import clash, heavy_clash, judge_clash, judge_heavy_clash, judge_tight, tight
from takersrest.errors import SmoothOffer
from takersrest.games import make_game
from takersrest.heavy import make_heavy
from takersrest.offers import is_smooth, make_offer
from tests.helpers import (
    all_offers, all_sets, is_offer, is_rest_by_words, is_smooth_by_words, random_numbers, some_rough_offers,
    some_smooth_offers,
)
from tests.test_heavy import is_heavy_rest_by_words

WAYS = (3, ((0, 2), (1,)))
PAIRS = (4, ((0, 1), (2, 3)))


def is_tight_by_words(offer, paper):
    a, b, c, first, second = paper
    lots = offer[1]
    if len({a, b, c}) < 3 or first not in lots or second not in lots:
        return False
    if a not in first or b in first or c in first or b not in second or c not in second or a in second:
        return False
    inner = [lot for lot in lots if set(lot) <= set(first) | set(second)]
    return all(a in lot or {b, c} <= set(lot) for lot in inner)


def great_rough_offers():
    """Offers with many things and lots, some with lots of different sizes."""
    draw = random_numbers(21)
    offers = [WAYS, PAIRS, ways(4, ((0, 1), (1, 2), (2, 3), (3, 0), (0, 2), (1, 3)), 0, 2)]
    for count in (6, 12, 20):
        for least in (2, 5):
            lots = []
            while len(lots) < count:
                lot = tuple(sorted(set(draw(12) for _ in range(least + draw(3)))))
                if not any(set(lot) <= set(other) or set(other) <= set(lot) for other in lots):
                    lots.append(lot)
            offers.append(make_offer(12, lots))
    offers.append((12, tuple(combinations(range(12), 2))[1:40]))
    return [offer for offer in offers if not is_smooth(offer)]


def are_names_by_words(offer, size, offers, names):
    return (
        len(names) == 2
        and size <= 2 * offer[0]
        and all(
            len(row) == offer[0] == len(set(row))
            and all(type(name) is int and 0 <= name < size for name in row)
            and renamed(offer, row, size) == other
            for row, other in zip(names, offers)
        )
    )


def are_tuples(value):
    """Whether the value is made of integers and tuples alone."""
    return type(value) is int or type(value) is tuple and all(are_tuples(part) for part in value)


def lots_of(offers):
    return product(*[offer[1] for offer in offers])


class Tight(unittest.TestCase):
    def assert_is_tight(self, offer):
        paper = tight(offer)
        self.assertTrue(are_tuples(paper))
        self.assertEqual(len(paper), 5)
        self.assertTrue(is_tight_by_words(offer, paper))
        self.assertIs(judge_tight(offer, paper), True)

    def test_smooth_offers(self):
        for offer in some_smooth_offers():
            with self.assertRaises(SmoothOffer):
                tight(offer)

    def test_every_other_small_offer(self):
        for offer in some_rough_offers():
            self.assert_is_tight(offer)
        for offer in all_offers(5)[::7]:
            if not is_smooth_by_words(offer):
                self.assert_is_tight(offer)

    def test_greater_offers(self):
        for offer in great_rough_offers():
            self.assert_is_tight(offer)

    def test_lots_of_different_sizes(self):
        self.assertEqual(sorted(tight(WAYS)[1:3]), [0, 2])
        self.assertEqual((tight(WAYS)[0],) + tight(WAYS)[3:], (1, (1,), (0, 2)))
        self.assert_is_tight((5, ((0, 1, 2, 3), (4,))))
        self.assert_is_tight((5, ((0, 1, 2), (0, 3, 4), (1, 3))))


class JudgeTight(unittest.TestCase):
    def test_every_paper_of_small_offers(self):
        # Also things and sets that are none of the offer's.
        for offer in (WAYS, PAIRS, (3, ((0, 1), (2,))), (4, ((0, 1), (0, 2), (1, 3))), choose(3, 1), choose(4, 2)):
            sets = [lot for lot in all_sets(offer[0]) if 0 < len(lot) < 4]
            for a, b, c in product(range(-1, offer[0] + 1), repeat=3):
                for first, second in product(sets, repeat=2):
                    paper = (a, b, c, first, second)
                    self.assertIs(judge_tight(offer, paper), is_tight_by_words(offer, paper))

    def test_b_and_c_may_change_places(self):
        self.assertIs(judge_tight(WAYS, (1, 0, 2, (1,), (0, 2))), True)
        self.assertIs(judge_tight(WAYS, (1, 2, 0, (1,), (0, 2))), True)

    def test_equal_things(self):
        self.assertIs(judge_tight(WAYS, (1, 0, 0, (1,), (0, 2))), False)
        self.assertIs(judge_tight(WAYS, (1, 1, 2, (1,), (0, 2))), False)
        self.assertIs(judge_tight(WAYS, (1, 0, 1, (1,), (0, 2))), False)
        self.assertIs(judge_tight(choose(2, 1), (0, 1, 1, (0,), (1,))), False)

    def test_things_that_are_none(self):
        for wrong in (-1, 3, 10 ** 50):
            self.assertIs(judge_tight(WAYS, (wrong, 0, 2, (1,), (0, 2))), False)
            self.assertIs(judge_tight(WAYS, (1, wrong, 2, (1,), (0, 2))), False)
            self.assertIs(judge_tight(WAYS, (1, 0, wrong, (1,), (0, 2))), False)

    def test_sets_that_are_no_lots(self):
        for second in ((2, 0), (0, 0, 2), (0, 2, 2), (0,), (0, 1, 2), (), (0, 2, 7), (-1, 0, 2)):
            self.assertIs(judge_tight(WAYS, (1, 0, 2, (1,), second)), False)
        for first in ((), (1, 1), (0, 1), (1, 9)):
            self.assertIs(judge_tight(WAYS, (1, 0, 2, first, (0, 2))), False)

    def test_each_condition_alone(self):
        offer = make_offer(7, [(0, 3), (1, 2, 3), (0, 4, 5), (1, 2, 4)])
        self.assertIs(judge_tight(offer, (0, 1, 2, (0, 3), (1, 2, 3))), True)
        # first has not a, or has b, or has c
        self.assertIs(judge_tight(offer, (4, 1, 2, (0, 3), (1, 2, 3))), False)
        self.assertIs(judge_tight(offer, (0, 3, 2, (0, 3), (1, 2, 3))), False)
        self.assertIs(judge_tight(offer, (0, 1, 3, (0, 3), (1, 2, 3))), False)
        # second has not b, or not c, or has a
        self.assertIs(judge_tight(offer, (0, 4, 2, (0, 3), (1, 2, 3))), False)
        self.assertIs(judge_tight(offer, (0, 1, 4, (0, 3), (1, 2, 3))), False)
        self.assertIs(judge_tight(offer, (3, 1, 2, (0, 3), (1, 2, 3))), False)
        # a lot within the union has neither a nor b, or lacks one of b and c
        wider = make_offer(7, [(0, 3, 4), (1, 2, 5), (3, 5)])
        self.assertIs(judge_tight(wider, (0, 1, 2, (0, 3, 4), (1, 2, 5))), False)
        wider = make_offer(7, [(0, 3, 4), (1, 2, 5), (1, 3, 5)])
        self.assertIs(judge_tight(wider, (0, 1, 2, (0, 3, 4), (1, 2, 5))), False)
        self.assertIs(judge_tight(wider, (0, 2, 1, (0, 3, 4), (1, 2, 5))), False)
        # a lot that lies not within the union may be as it likes
        wider = make_offer(7, [(0, 3, 4), (1, 2, 5), (3, 5, 6), (1, 3, 6)])
        self.assertIs(judge_tight(wider, (0, 1, 2, (0, 3, 4), (1, 2, 5))), True)


class Clash(unittest.TestCase):
    def assert_is_clash(self, offer):
        found = clash(offer)
        self.assertTrue(are_tuples(found))
        game, names = found
        self.assertEqual(make_game(game), game)
        self.assertEqual(len(game), 2)
        offers = [taker[0] for taker in game]
        self.assertTrue(all(is_offer(other) for other in offers))
        self.assertTrue(are_names_by_words(offer, offers[0][0], offers, names))
        for _, costs in game:
            for row in costs:
                self.assertGreaterEqual(row[0], 0)
                self.assertEqual(list(row), sorted(row))
                self.assertGreaterEqual(len(row), 2)
        self.assertFalse(any(is_rest_by_words(game, choice) for choice in lots_of(offers)))
        self.assertIs(judge_clash(offer, game, names), True)

    def test_smooth_offers(self):
        for offer in some_smooth_offers():
            with self.assertRaises(SmoothOffer):
                clash(offer)

    def test_every_other_small_offer(self):
        for offer in [offer for size in range(5) for offer in all_offers(size)]:
            if not is_smooth_by_words(offer):
                self.assert_is_clash(offer)
        for offer in all_offers(5)[::29]:
            if not is_smooth_by_words(offer):
                self.assert_is_clash(offer)

    def test_greater_offers(self):
        for offer in great_rough_offers():
            self.assert_is_clash(offer)


class HeavyClash(unittest.TestCase):
    def assert_is_heavy_clash(self, offer):
        found = heavy_clash(offer)
        self.assertTrue(are_tuples(found))
        game, names = found
        self.assertEqual(make_heavy(*game), game)
        self.assertEqual([weight for _, weight in game[1]], [1, 2])
        offers = [taker[0] for taker in game[1]]
        self.assertTrue(all(is_offer(other) for other in offers))
        self.assertTrue(are_names_by_words(offer, len(game[0]), offers, names))
        for row in game[0]:
            self.assertGreaterEqual(row[0], 0)
            self.assertEqual(list(row), sorted(row))
            self.assertGreaterEqual(len(row), 3)
        self.assertFalse(any(is_heavy_rest_by_words(game, choice) for choice in lots_of(offers)))
        self.assertIs(judge_heavy_clash(offer, game, names), True)

    def test_smooth_offers(self):
        for offer in some_smooth_offers():
            with self.assertRaises(SmoothOffer):
                heavy_clash(offer)

    def test_every_other_small_offer(self):
        for offer in [offer for size in range(5) for offer in all_offers(size)]:
            if not is_smooth_by_words(offer):
                self.assert_is_heavy_clash(offer)
        for offer in all_offers(5)[::29]:
            if not is_smooth_by_words(offer):
                self.assert_is_heavy_clash(offer)

    def test_greater_offers(self):
        for offer in great_rough_offers():
            self.assert_is_heavy_clash(offer)


def with_costs(game, taker, costs):
    return game[:taker] + ((game[taker][0], costs),) + game[taker + 1:]


# A clash of WAYS that is made here by hand: the takers share 0, 1 and 2, and the way 1 of each is a part of the
# other one's long way.
GAME = (
    (WAYS, ((1, 4), (2, 10), (1, 1))),
    ((3, ((0,), (1, 2))), ((3, 3), (1, 1), (1, 4))),
)
NAMES = ((0, 1, 2), (1, 0, 2))
HEAVY = (((1, 14, 14), (12, 12, 12), (1, 1, 10)), ((WAYS, 1), ((3, ((0,), (1, 2))), 2)))


class JudgeClash(unittest.TestCase):
    def test_right_ones(self):
        self.assertIs(judge_clash(WAYS, GAME, NAMES), True)
        self.assertIs(judge_clash(WAYS, GAME, ((2, 1, 0), (2, 0, 1))), True)
        self.assertIs(judge_clash(WAYS, GAME[::-1], NAMES[::-1]), True)

    def test_numbers_of_takers(self):
        other = (GAME[0][0], ((0, 0, 0),) * 3)
        three = tuple((offer, tuple(row + (99,) for row in costs)) for offer, costs in GAME)
        self.assertIs(judge_clash(WAYS, (), ()), False)
        self.assertIs(judge_clash(WAYS, (), NAMES), False)
        self.assertIs(judge_clash(WAYS, GAME[:1], NAMES[:1]), False)
        self.assertIs(judge_clash(WAYS, GAME[:1], NAMES), False)
        self.assertIs(judge_clash(WAYS, three + (other,), NAMES + ((0, 1, 2),)), False)
        self.assertIs(judge_clash(WAYS, three + (other,), NAMES), False)
        self.assertIs(judge_clash(WAYS, three, NAMES), True)

    def test_numbers_of_names(self):
        for names in ((), NAMES[:1], NAMES + NAMES[:1], NAMES + ((),)):
            self.assertIs(judge_clash(WAYS, GAME, names), False)

    def test_names(self):
        for row in ((), (0, 1), (0, 1, 2, 3), (0, 1, 1), (0, 0, 2), (0, 1, 3), (-3, 1, 2), (0, 1, -1), (0, 1, 10 ** 40)):
            self.assertIs(judge_clash(WAYS, GAME, (row, NAMES[1])), False)
            self.assertIs(judge_clash(WAYS, GAME, (NAMES[0], row)), False)

    def test_names_of_things_that_no_lot_has(self):
        offer = (4, WAYS[1])
        for size in (4, 8):
            game = tuple((renamed(other, (0, 1, 2), size), costs + ((0, 0),) * (size - 3)) for other, costs in GAME)
            for name in range(-2, size + 2):
                is_right = 2 < name < size
                self.assertIs(judge_clash(offer, game, ((0, 1, 2, name), NAMES[1] + (3,))), is_right)
                self.assertIs(judge_clash(offer, game, (NAMES[0] + (3,), NAMES[1] + (name,))), is_right)

    def test_an_offer_that_is_not_the_renamed_one(self):
        self.assertIs(judge_clash(WAYS, GAME, NAMES[::-1]), False)
        self.assertIs(judge_clash(WAYS, GAME, (NAMES[0], NAMES[0])), False)
        self.assertIs(judge_clash(WAYS, GAME, (NAMES[1], NAMES[1])), False)
        self.assertIs(judge_clash((3, ((0, 1), (2,))), GAME, NAMES), False)
        self.assertIs(judge_clash((4, WAYS[1]), GAME, NAMES), False)
        for names in product(permutations(range(3)), repeat=2):
            offers = [offer for offer, _ in GAME]
            self.assertIs(judge_clash(WAYS, GAME, names), are_names_by_words(WAYS, 3, offers, names))

    def test_sizes(self):
        def spread(size):
            return tuple((renamed(offer, (0, 1, 2), size), costs + ((0, 0),) * (size - 3)) for offer, costs in GAME)

        for size in (3, 4, 5, 6):
            self.assertIs(judge_clash(WAYS, spread(size), NAMES), True)
        for size in (7, 8, 24):
            self.assertIs(judge_clash(WAYS, spread(size), NAMES), False)

    def test_costs_below_0(self):
        for taker, costs, is_right in (
            (0, ((0, 3), (1, 9), (1, 1)), True),
            (0, ((0, 3), (1, 9), (0, 0)), True),
            (0, ((-1, 3), (1, 9), (1, 1)), False),
            (1, ((2, 2), (0, 0), (0, 3)), True),
            (1, ((1, 1), (0, 0), (-1, 3)), False),
        ):
            game = with_costs(GAME, taker, costs)
            choices = lots_of([offer for offer, _ in game])
            self.assertFalse(any(is_rest_by_words(game, choice) for choice in choices))
            self.assertIs(judge_clash(WAYS, game, NAMES), is_right)
        # Also of a thing that no lot has.
        wide = tuple((renamed(offer, (0, 1, 2), 4), costs + ((-1, 0),)) for offer, costs in GAME)
        self.assertIs(judge_clash(WAYS, wide, NAMES), False)

    def test_a_game_with_a_rest(self):
        self.assertIs(judge_clash(WAYS, with_costs(GAME, 0, ((0, 0), (0, 0), (0, 0))), NAMES), False)
        self.assertIs(judge_clash(WAYS, with_costs(GAME, 1, ((3, 3), (1, 1), (1, 2))), NAMES), False)
        self.assertIs(judge_clash(WAYS, with_costs(GAME, 1, ((2, 3), (1, 1), (1, 4))), NAMES), False)

    def test_smooth_offers_have_none(self):
        for offer in (choose(2, 1), choose(3, 2), (3, ((),))):
            names = (tuple(range(offer[0])),) * 2
            costs = ((0, 1),) * offer[0]
            self.assertIs(judge_clash(offer, ((offer, costs),) * 2, names), False)
        self.assertIs(judge_clash((0, ((),)), (((0, ((),)), ()),) * 2, ((), ())), False)


class JudgeHeavyClash(unittest.TestCase):
    def test_right_ones(self):
        self.assertIs(judge_heavy_clash(WAYS, HEAVY, NAMES), True)
        self.assertIs(judge_heavy_clash(WAYS, HEAVY, ((2, 1, 0), (2, 0, 1))), True)
        roomy = (tuple(row + (99,) for row in HEAVY[0]), HEAVY[1])
        self.assertIs(judge_heavy_clash(WAYS, roomy, NAMES), True)

    def test_weights(self):
        costs, (first, second) = HEAVY
        roomy = tuple(row + (99, 99) for row in costs)
        for weights in ((2, 1), (1, 1), (2, 2), (1, 3), (1, 4)):
            game = (roomy, ((first[0], weights[0]), (second[0], weights[1])))
            self.assertIs(judge_heavy_clash(WAYS, game, NAMES), False)
        # The same takers in the other order have no rest either, but the weights are in the wrong order.
        self.assertFalse(any(
            is_heavy_rest_by_words((costs, (second, first)), choice) for choice in lots_of([second[0], first[0]])
        ))
        self.assertIs(judge_heavy_clash(WAYS, (costs, (second, first)), NAMES[::-1]), False)

    def test_numbers_of_takers(self):
        costs, takers = HEAVY
        roomy = tuple(row + (99, 99) for row in costs)
        self.assertIs(judge_heavy_clash(WAYS, (costs, ()), ()), False)
        self.assertIs(judge_heavy_clash(WAYS, (costs, ()), NAMES), False)
        self.assertIs(judge_heavy_clash(WAYS, ((), ()), NAMES), False)
        self.assertIs(judge_heavy_clash(WAYS, (costs, takers[:1]), NAMES), False)
        self.assertIs(judge_heavy_clash(WAYS, (roomy, takers + ((WAYS, 1),)), NAMES), False)
        self.assertIs(judge_heavy_clash(WAYS, (roomy, takers + ((WAYS, 1),)), NAMES + NAMES[:1]), False)

    def test_names(self):
        for names in ((), NAMES[:1], NAMES + NAMES[:1], NAMES[::-1]):
            self.assertIs(judge_heavy_clash(WAYS, HEAVY, names), False)
        for row in ((), (0, 1), (0, 1, 2, 3), (0, 1, 1), (0, 1, 3), (-3, 1, 2), (0, 1, -1)):
            self.assertIs(judge_heavy_clash(WAYS, HEAVY, (row, NAMES[1])), False)
            self.assertIs(judge_heavy_clash(WAYS, HEAVY, (NAMES[0], row)), False)
        for names in product(permutations(range(3)), repeat=2):
            offers = [offer for offer, _ in HEAVY[1]]
            self.assertIs(judge_heavy_clash(WAYS, HEAVY, names), are_names_by_words(WAYS, 3, offers, names))

    def test_names_of_things_that_no_lot_has(self):
        offer = (4, WAYS[1])
        takers = tuple((renamed(other, (0, 1, 2), 5), weight) for other, weight in HEAVY[1])
        game = (HEAVY[0] + ((0, 0, 0),) * 2, takers)
        for name in range(-2, 7):
            is_right = 2 < name < 5
            self.assertIs(judge_heavy_clash(offer, game, (NAMES[0] + (name,), NAMES[1] + (3,))), is_right)
            self.assertIs(judge_heavy_clash(offer, game, (NAMES[0] + (3,), NAMES[1] + (name,))), is_right)

    def test_sizes(self):
        for size in range(3, 9):
            takers = tuple((renamed(offer, (0, 1, 2), size), weight) for offer, weight in HEAVY[1])
            game = (HEAVY[0] + ((0, 0, 0),) * (size - 3), takers)
            self.assertIs(judge_heavy_clash(WAYS, game, NAMES), size <= 6)

    def test_costs(self):
        x, y, z = HEAVY[0]
        for less in (0, 1, 2):
            rows = tuple(tuple(cost - less for cost in row) for row in (x, y)) + (z,)
            game = (rows, HEAVY[1])
            choices = lots_of([offer for offer, _ in HEAVY[1]])
            self.assertFalse(any(is_heavy_rest_by_words(game, choice) for choice in choices))
            self.assertIs(judge_heavy_clash(WAYS, game, NAMES), less < 2)
        wide = tuple((renamed(offer, (0, 1, 2), 4), weight) for offer, weight in HEAVY[1])
        self.assertIs(judge_heavy_clash(WAYS, (HEAVY[0] + ((0, 0, 0),), wide), NAMES), True)
        self.assertIs(judge_heavy_clash(WAYS, (HEAVY[0] + ((-1, 0, 0),), wide), NAMES), False)

    def test_a_game_with_a_rest(self):
        self.assertIs(judge_heavy_clash(WAYS, (((0, 0, 0),) * 3, HEAVY[1]), NAMES), False)
        self.assertIs(judge_heavy_clash(WAYS, (((1, 14, 14), (12, 12, 12), (1, 1, 1)), HEAVY[1]), NAMES), False)


if __name__ == "__main__":
    unittest.main()

import unittest
from itertools import product

from takersrest.builders import choose
from takersrest.offers import make_offer
from takersrest.pricing import best_exchange, cheapest, greedy_lot, price, trap
from tests.helpers import (
    all_offers, exchanges_by_words, is_free_by_words, is_smooth_by_words, price_by_words, some_offers, some_prices,
    some_rough_offers, some_smooth_offers,
)

GREAT = 10 ** 5000


def better_by_words(offer, lot, prices):
    """All better exchanges with their differences, the best one first."""
    return sorted(
        (prices[into] - prices[out], out, into)
        for out, into in exchanges_by_words(offer, lot)
        if prices[into] < prices[out]
    )


def greedy_by_words(offer, prices):
    things = ()
    while True:
        addable = [
            (prices[thing], thing) for thing in range(offer[0])
            if thing not in things and is_free_by_words(offer, tuple(sorted(things + (thing,))))
        ]
        if not addable:
            return things
        things = tuple(sorted(things + (min(addable)[1],)))


class Price(unittest.TestCase):
    def test_sums(self):
        self.assertEqual(price((), (1, 2, 3)), 0)
        self.assertEqual(price((), ()), 0)
        self.assertEqual(price((0, 2), (1, 2, 4)), 5)
        self.assertEqual(price((1,), (1, -2, 4)), -2)
        self.assertEqual(price((0, 1, 2), (1, -2, -4)), -5)

    def test_great_numbers(self):
        self.assertEqual(price((0, 1), (GREAT, 1 - GREAT)), 1)
        self.assertEqual(price((0, 1), (GREAT, GREAT)), 2 * GREAT)

    def test_kind(self):
        self.assertIs(type(price((), ())), int)


class Cheapest(unittest.TestCase):
    def test_equal_prices_give_the_first_lot(self):
        self.assertEqual(cheapest(choose(4, 2), (0, 0, 0, 0)), (0, 1))
        self.assertEqual(cheapest(choose(4, 2), (5, 1, 1, 1)), (1, 2))
        self.assertEqual(cheapest((3, ((0, 2), (1,))), (1, 2, 1)), (0, 2))
        self.assertEqual(cheapest((3, ((0,), (1, 2))), (2, 1, 1)), (0,))

    def test_prices_below_0(self):
        self.assertEqual(cheapest((3, ((0, 2), (1,))), (-1, -3, -1)), (1,))
        self.assertEqual(cheapest((3, ((0, 2), (1,))), (-1, -1, -1)), (0, 2))

    def test_great_prices(self):
        self.assertEqual(cheapest((3, ((0, 2), (1,))), (GREAT, 2 * GREAT, GREAT + 1)), (1,))
        self.assertEqual(cheapest((3, ((0, 2), (1,))), (GREAT, 2 * GREAT, GREAT - 1)), (0, 2))

    def test_empty_lot_alone_and_size_0(self):
        self.assertEqual(cheapest((0, ((),)), ()), ())
        self.assertEqual(cheapest((3, ((),)), (-1, -2, -3)), ())

    def test_by_words(self):
        for at, offer in enumerate(some_offers()):
            for prices in some_prices(offer[0], at):
                least = min(price_by_words(lot, prices) for lot in offer[1])
                first = next(lot for lot in offer[1] if price_by_words(lot, prices) == least)
                self.assertEqual(cheapest(offer, prices), first)


class BestExchange(unittest.TestCase):
    def test_with_and_without(self):
        self.assertEqual(best_exchange(choose(3, 1), (0,), (5, 3, 4)), (0, 1))
        self.assertIsNone(best_exchange(choose(3, 1), (1,), (5, 3, 4)))
        self.assertIsNone(best_exchange((3, ((0, 1, 2),)), (0, 1, 2), (5, 3, 4)))
        self.assertIsNone(best_exchange((0, ((),)), (), ()))
        self.assertIsNone(best_exchange((2, ((),)), (), (-1, -1)))

    def test_an_equal_price_is_not_better(self):
        self.assertIsNone(best_exchange(choose(4, 2), (0, 1), (7, 7, 7, 7)))
        self.assertIsNone(best_exchange(choose(2, 1), (0,), (-7, -7)))

    def test_least_difference(self):
        self.assertEqual(best_exchange(choose(4, 2), (0, 1), (9, 5, 1, 4)), (0, 2))
        self.assertEqual(best_exchange(choose(4, 2), (0, 1), (5, 9, 4, 1)), (1, 3))
        self.assertEqual(best_exchange(choose(3, 1), (2,), (-1, -2, GREAT)), (2, 1))

    def test_ties_least_out_then_least_in(self):
        self.assertEqual(best_exchange(choose(4, 2), (2, 3), (1, 1, 3, 3)), (2, 0))
        self.assertEqual(best_exchange(choose(4, 2), (0, 1), (3, 3, 1, 1)), (0, 2))
        offer = (4, ((0, 1), (0, 2), (1, 3)))
        self.assertEqual(best_exchange(offer, (0, 1), (3, 3, 1, 1)), (0, 3))

    def test_offers_that_are_not_smooth(self):
        self.assertIsNone(best_exchange((4, ((0, 1), (2, 3))), (0, 1), (9, 9, 1, 1)))
        self.assertIsNone(best_exchange((3, ((0, 2), (1,))), (0, 2), (9, 1, 9)))
        self.assertEqual(best_exchange((4, ((0, 1), (0, 3), (2, 3))), (0, 1), (9, 2, 1, 1)), (1, 3))

    def test_by_words(self):
        for at, offer in enumerate(some_offers()):
            for prices in some_prices(offer[0], at):
                for lot in offer[1][:9]:
                    better = better_by_words(offer, lot, prices)
                    wanted = better[0][1:] if better else None
                    self.assertEqual(best_exchange(offer, lot, prices), wanted)

    def test_none_exactly_at_the_least_price_of_smooth_offers(self):
        for at, offer in enumerate(some_smooth_offers()):
            for prices in some_prices(offer[0], at):
                least = min(price_by_words(lot, prices) for lot in offer[1])
                for lot in offer[1][:9]:
                    self.assertEqual(
                        best_exchange(offer, lot, prices) is None, price_by_words(lot, prices) == least,
                    )


class GreedyLot(unittest.TestCase):
    def test_equal_prices_give_the_least_thing(self):
        self.assertEqual(greedy_lot(choose(4, 2), (1, 1, 1, 1)), (0, 1))
        self.assertEqual(greedy_lot(choose(4, 2), (2, 1, 1, 1)), (1, 2))
        self.assertEqual(greedy_lot((3, ((0,), (1, 2))), (5, 5, 5)), (0,))

    def test_prices_below_0(self):
        self.assertEqual(greedy_lot(choose(4, 2), (-1, 3, -2, 0)), (0, 2))
        self.assertEqual(greedy_lot((2, ((),)), (-1, -1)), ())

    def test_dear_things_are_added_too(self):
        self.assertEqual(greedy_lot((3, ((0, 2), (1,))), (1, 2, GREAT)), (0, 2))
        self.assertEqual(greedy_lot((3, ((0, 2), (1,))), (3, 2, GREAT)), (1,))

    def test_size_0(self):
        self.assertEqual(greedy_lot((0, ((),)), ()), ())

    def test_not_the_cheapest_of_a_rough_offer(self):
        offer = (4, ((0, 1), (2, 3)))
        self.assertEqual(greedy_lot(offer, (1, 9, 2, 2)), (0, 1))
        self.assertEqual(cheapest(offer, (1, 9, 2, 2)), (2, 3))

    def test_by_words(self):
        for at, offer in enumerate(some_offers()):
            for prices in some_prices(offer[0], at):
                lot = greedy_lot(offer, prices)
                self.assertEqual(lot, greedy_by_words(offer, prices))
                self.assertIn(lot, offer[1])

    def test_least_price_in_smooth_offers(self):
        for at, offer in enumerate(some_smooth_offers()):
            for prices in some_prices(offer[0], at):
                self.assertEqual(
                    price_by_words(greedy_lot(offer, prices), prices),
                    min(price_by_words(lot, prices) for lot in offer[1]),
                )


class Trap(unittest.TestCase):
    def assert_is_trap(self, offer, found):
        self.assertIsInstance(found, tuple)
        prices, lot, cheaper = found
        self.assertIsInstance(prices, tuple)
        self.assertEqual([type(entry) for entry in prices], [int] * offer[0])
        self.assertIn(lot, offer[1])
        self.assertIn(cheaper, offer[1])
        self.assertEqual(better_by_words(offer, lot, prices), [])
        self.assertLess(price_by_words(cheaper, prices), price_by_words(lot, prices))

    def test_none_for_smooth_offers(self):
        for offer in some_smooth_offers():
            self.assertIsNone(trap(offer))
        self.assertIsNone(trap((0, ((),))))

    def test_a_trap_for_every_other_one(self):
        for offer in some_rough_offers():
            self.assert_is_trap(offer, trap(offer))

    def test_lots_of_different_sizes(self):
        self.assert_is_trap((3, ((0, 2), (1,))), trap((3, ((0, 2), (1,)))))
        self.assert_is_trap((5, ((0, 1, 2, 3), (4,))), trap((5, ((0, 1, 2, 3), (4,)))))
        offer = make_offer(6, [(0,), (1, 2, 3), (1, 2, 4), (3, 4, 5)])
        self.assert_is_trap(offer, trap(offer))

    def test_some_offers_of_five_things(self):
        for offer in all_offers(5)[::17]:
            if is_smooth_by_words(offer):
                self.assertIsNone(trap(offer))
            else:
                self.assert_is_trap(offer, trap(offer))

    def test_only_offers_without_a_trap_are_smooth(self):
        # All price rows of few prices are tried: a rough offer has a trap among them, a smooth one has none.
        for offer in all_offers(3):
            traps = [
                prices for prices in product(range(3), repeat=3) for lot in offer[1]
                if not better_by_words(offer, lot, prices)
                and min(price_by_words(other, prices) for other in offer[1]) < price_by_words(lot, prices)
            ]
            self.assertEqual(traps == [], trap(offer) is None)


if __name__ == "__main__":
    unittest.main()

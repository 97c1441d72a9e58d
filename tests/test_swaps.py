import unittest
from itertools import combinations

from takersrest.builders import beside, choose, parts, renamed, trees
from takersrest.offers import is_smooth
from takersrest.swaps import cheapest_offer, partners_of, spare, swap, together
from tests.helpers import all_offers, is_offer, is_smooth_by_words, price_by_words, some_prices, swapped

COMPLETE = tuple(combinations(range(4), 2))


def smooth_offers(size):
    return [offer for offer in all_offers(size) if is_smooth_by_words(offer)]


def many_smooth_offers():
    offers = [offer for size in range(5) for offer in smooth_offers(size)]
    offers.append(trees(4, COMPLETE))
    offers.append(parts(((3, 1), (3, 2))))
    offers.append(renamed(parts(((2, 1), (2, 1), (2, 1))), (4, 0, 2, 5, 1, 3), 7))
    return offers


class Swap(unittest.TestCase):
    def test_least_thing(self):
        self.assertEqual(swap(choose(4, 2), (0, 1), (2, 3), 0), 2)
        self.assertEqual(swap(choose(4, 2), (0, 1), (1, 3), 0), 3)
        self.assertEqual(swap(choose(5, 1), (4,), (1,), 4), 1)

    def test_both_sets_have_to_be_lots(self):
        # A square with a road across it: any three roads without a round are a lot.
        offer = trees(4, ((0, 1), (1, 2), (2, 3), (3, 0), (0, 2)))
        # With 3 in the place of 1 the first one is a lot, but the second one is not with 1 in the place of 3.
        self.assertEqual(swap(offer, (0, 1, 2), (0, 3, 4), 1), 4)
        # With 2 in the place of 1 the second one is a lot, but the first one is not with 1 in the place of 2.
        self.assertEqual(swap(offer, (0, 2, 4), (0, 1, 3), 2), 3)
        offer = parts(((2, 1), (2, 1)))
        self.assertEqual(swap(offer, (0, 2), (1, 3), 2), 3)

    def test_by_words(self):
        told_apart = 0
        for offer in many_smooth_offers():
            for first in offer[1]:
                for second in offer[1]:
                    for x in first:
                        if x not in second:
                            one = [y for y in second if y not in first and swapped(first, x, y) in offer[1]]
                            other = [y for y in second if y not in first and swapped(second, y, x) in offer[1]]
                            both = [y for y in one if y in other]
                            self.assertEqual(swap(offer, first, second, x), min(both))
                            told_apart += min(one) != min(both) or min(other) != min(both)
        self.assertGreater(told_apart, 0)


class Partners(unittest.TestCase):
    def assert_are_partners(self, offer, first, second, pairs):
        self.assertIsInstance(pairs, tuple)
        self.assertEqual([x for x, _ in pairs], [x for x in first if x not in second])
        put_in = [y for _, y in pairs]
        self.assertEqual(len(put_in), len(set(put_in)))
        for x, y in pairs:
            self.assertIn(y, second)
            self.assertNotIn(y, first)
            self.assertIn(swapped(first, x, y), offer[1])

    def test_equal_lots(self):
        self.assertEqual(partners_of(choose(4, 2), (0, 1), (0, 1)), ())
        self.assertEqual(partners_of((0, ((),)), (), ()), ())

    def test_only_one_way(self):
        self.assertEqual(partners_of(choose(3, 1), (2,), (0,)), ((2, 0),))
        self.assertEqual(partners_of(parts(((2, 1), (2, 1))), (0, 2), (1, 3)), ((0, 1), (2, 3)))
        offer = renamed(parts(((2, 1), (2, 1))), (3, 0, 1, 2), 4)
        self.assertEqual(partners_of(offer, (1, 3), (0, 2)), ((1, 2), (3, 0)))

    def test_a_first_partner_has_to_make_room(self):
        # 0 could have 2 or 3, but 1 has only 2: whoever comes first, both have to find one.
        offer = trees(3, ((0, 1), (1, 2), (1, 2), (0, 2)))
        self.assertEqual(partners_of(offer, (0, 1), (2, 3)), ((0, 3), (1, 2)))
        offer = trees(3, ((1, 2), (0, 1), (0, 2), (1, 2)))
        self.assertEqual(partners_of(offer, (0, 1), (2, 3)), ((0, 3), (1, 2)))

    def test_by_words(self):
        for offer in many_smooth_offers():
            for first in offer[1]:
                for second in offer[1]:
                    self.assert_are_partners(offer, first, second, partners_of(offer, first, second))

    def test_many_things(self):
        offer = parts(tuple((2, 1) for _ in range(6)))
        first, second = offer[1][0], offer[1][-1]
        self.assertEqual(partners_of(offer, first, second), tuple((2 * at, 2 * at + 1) for at in range(6)))


class CheapestOffer(unittest.TestCase):
    def test_equal_prices_keep_all(self):
        self.assertEqual(cheapest_offer(choose(4, 2), (3, 3, 3, 3)), choose(4, 2))
        self.assertEqual(cheapest_offer((0, ((),)), ()), (0, ((),)))

    def test_one_lot_alone(self):
        self.assertEqual(cheapest_offer(choose(4, 2), (1, 2, 3, 4)), (4, ((0, 1),)))
        self.assertEqual(cheapest_offer(choose(3, 1), (-1, -2, -10 ** 50)), (3, ((2,),)))

    def test_some_lots(self):
        self.assertEqual(cheapest_offer(choose(4, 2), (2, 1, 2, 5)), (4, ((0, 1), (1, 2))))

    def test_by_words(self):
        for at, offer in enumerate(many_smooth_offers()):
            for prices in some_prices(offer[0], at):
                found = cheapest_offer(offer, prices)
                least = min(price_by_words(lot, prices) for lot in offer[1])
                self.assertTrue(is_offer(found))
                self.assertEqual(found[0], offer[0])
                self.assertEqual(
                    found[1], tuple(lot for lot in offer[1] if price_by_words(lot, prices) == least),
                )
                self.assertTrue(is_smooth(found))


class Together(unittest.TestCase):
    def test_rank_0(self):
        self.assertEqual(together((3, ((),)), (3, ((),))), (3, ((),)))
        self.assertEqual(spare((3, ((),)), (3, ((),))), 0)
        self.assertEqual(together((3, ((),)), choose(3, 2)), choose(3, 2))
        self.assertEqual(together(choose(3, 2), (3, ((),))), choose(3, 2))
        self.assertEqual(spare(choose(3, 2), (3, ((),))), 0)
        self.assertEqual(together((0, ((),)), (0, ((),))), (0, ((),)))
        self.assertEqual(spare((0, ((),)), (0, ((),))), 0)

    def test_unions_are_in_ascending_order(self):
        self.assertEqual(together((9, ((8,),)), (9, ((0, 1),))), (9, ((0, 1, 8),)))
        self.assertEqual(together((12, ((8, 11),)), (12, ((3,), (9,)))), (12, ((3, 8, 11), (8, 9, 11))))

    def test_equal_offers(self):
        self.assertEqual(together(choose(4, 1), choose(4, 1)), choose(4, 2))
        self.assertEqual(spare(choose(4, 1), choose(4, 1)), 0)
        self.assertEqual(together(choose(3, 2), choose(3, 2)), choose(3, 3))
        self.assertEqual(spare(choose(3, 2), choose(3, 2)), 1)
        self.assertEqual(spare(choose(3, 3), choose(3, 3)), 3)

    def test_nothing_shared(self):
        first = beside(choose(3, 1), choose(3, 0))
        second = beside(choose(3, 0), choose(3, 2))
        self.assertEqual(together(first, second), parts(((3, 1), (3, 2))))
        self.assertEqual(spare(first, second), 0)

    def test_some_unions_are_too_small(self):
        self.assertEqual(together((3, ((0,), (1,))), (3, ((0,), (1,)))), (3, ((0, 1),)))
        self.assertEqual(together((3, ((0,), (1,))), (3, ((1,), (2,)))), (3, ((0, 1), (0, 2), (1, 2))))

    def test_by_words(self):
        for size in range(5):
            offers = smooth_offers(size)
            for first in offers:
                for second in offers:
                    pairs = [(set(x), set(y)) for x in first[1] for y in second[1]]
                    most = max(len(x | y) for x, y in pairs)
                    greatest = sorted({tuple(sorted(x | y)) for x, y in pairs if len(x | y) == most})
                    found = together(first, second)
                    self.assertEqual(found, (size, tuple(greatest)))
                    self.assertEqual(spare(first, second), min(len(x & y) for x, y in pairs))
                    if size < 4:
                        self.assertTrue(is_offer(found))
                        self.assertTrue(is_smooth(found))
                        self.assertTrue(all(any(x | y <= set(lot) for lot in greatest) for x, y in pairs))

    def test_greater_ones(self):
        self.assertEqual(spare(choose(12, 11), choose(12, 11)), 10)
        self.assertEqual(together(choose(12, 11), choose(12, 11)), choose(12, 12))


if __name__ == "__main__":
    unittest.main()

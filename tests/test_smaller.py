import unittest
from itertools import combinations

from takersrest.builders import choose, parts
from takersrest.offers import is_free, is_smooth
from takersrest.smaller import circuits, holding, span, without
from tests.helpers import all_sets, circuits_by_words, is_offer, rank_by_words, some_offers

UNLIKE = (6, ((0, 1, 2), (0, 3), (1, 3, 4, 5), (2, 4)))


def closed_up(lot, thing):
    return tuple(sorted(t - (t > thing) for t in lot if t != thing))


class Circuits(unittest.TestCase):
    def test_every_small_offer(self):
        for offer in some_offers():
            if offer[0] < 8:
                self.assertEqual(circuits(offer), circuits_by_words(offer))

    def test_none_at_all(self):
        for size in (0, 1, 5, 12):
            self.assertEqual(circuits((size, (tuple(range(size)),))), ())

    def test_a_thing_in_no_lot(self):
        self.assertEqual(circuits((3, ((1,),))), ((0,), (2,)))
        self.assertEqual(circuits((2, ((),))), ((0,), (1,)))

    def test_unlike_numbers(self):
        self.assertEqual(circuits((3, ((0, 2), (1,)))), ((0, 1), (1, 2)))
        self.assertEqual(circuits((4, ((0, 1), (0, 2), (1, 2), (3,)))), ((0, 1, 2), (0, 3), (1, 3), (2, 3)))

    def test_many_things(self):
        for offer in (choose(12, 2), choose(12, 10), choose(8, 4), parts(((6, 1), (6, 2))), UNLIKE):
            rows = circuits(offer)
            self.assertEqual(list(rows), sorted(set(rows)))
            for row in rows:
                self.assertFalse(is_free(offer, row))
                for part in combinations(row, len(row) - 1):
                    self.assertTrue(is_free(offer, part))
        self.assertEqual(circuits(choose(12, 2)), tuple(combinations(range(12), 3)))
        self.assertEqual(circuits(choose(12, 10)), tuple(combinations(range(12), 11)))


class Span(unittest.TestCase):
    def test_by_words(self):
        for offer in some_offers():
            for things in all_sets(min(offer[0], 6)):
                reached = rank_by_words(offer, things)
                wanted = tuple(
                    t for t in range(offer[0]) if rank_by_words(offer, set(things) | {t}) == reached
                )
                self.assertEqual(span(offer, things), wanted)

    def test_empty_set_lot_and_all_things(self):
        self.assertEqual(span((3, ((1,),)), ()), (0, 2))
        self.assertEqual(span(choose(4, 2), ()), ())
        self.assertEqual(span(choose(4, 2), (3,)), (3,))
        self.assertEqual(span(choose(4, 2), (1, 3)), (0, 1, 2, 3))
        self.assertEqual(span(choose(12, 2), tuple(range(12))), tuple(range(12)))
        self.assertEqual(span((0, ((),)), ()), ())

    def test_not_smooth(self):
        # The addition of 1 does not increase the rank of the set, but the set has no lot with both.
        self.assertEqual(span((3, ((0, 2), (1,))), (0,)), (0, 1))
        self.assertEqual(span((3, ((0, 2), (1,))), (1,)), (0, 1, 2))
        self.assertEqual(span(UNLIKE, (0, 4)), (0, 4))

    def test_many_things(self):
        offer = parts(((6, 1), (6, 2)))
        self.assertEqual(span(offer, (2,)), (0, 1, 2, 3, 4, 5))
        self.assertEqual(span(offer, (6, 11)), (6, 7, 8, 9, 10, 11))
        self.assertEqual(span(offer, (0, 8)), (0, 1, 2, 3, 4, 5, 8))


class WithoutAndHolding(unittest.TestCase):
    def test_in_some_lots(self):
        offer = (4, ((0, 1), (0, 3), (1, 2), (2, 3)))
        self.assertEqual(without(offer, 1), (3, ((0, 2), (1, 2))))
        self.assertEqual(holding(offer, 1), (3, ((0,), (1,))))

    def test_in_all_lots(self):
        offer = (4, ((0, 2), (1, 2), (2, 3)))
        self.assertEqual(without(offer, 2), (3, ((0,), (1,), (2,))))
        self.assertEqual(holding(offer, 2), (3, ((0,), (1,), (2,))))
        self.assertEqual(without((1, ((0,),)), 0), (0, ((),)))
        self.assertEqual(holding((1, ((0,),)), 0), (0, ((),)))

    def test_in_no_lot(self):
        offer = (4, ((0, 3), (1,)))
        self.assertEqual(without(offer, 2), (3, ((0, 2), (1,))))
        self.assertEqual(holding(offer, 2), (3, ((0, 2), (1,))))
        self.assertEqual(without((1, ((),)), 0), (0, ((),)))
        self.assertEqual(holding((1, ((),)), 0), (0, ((),)))

    def test_unlike_numbers_of_things(self):
        self.assertEqual(without(UNLIKE, 3), (5, ((0, 1, 2), (2, 3))))
        self.assertEqual(holding(UNLIKE, 3), (5, ((0,), (1, 3, 4))))
        self.assertEqual(without((3, ((0, 2), (1,))), 1), (2, ((0, 1),)))
        self.assertEqual(holding((3, ((0, 2), (1,))), 1), (2, ((),)))

    def test_lots_stay_in_order(self):
        self.assertEqual(holding((3, ((0, 1), (0, 2), (1, 2))), 1), (2, ((0,), (1,))))
        self.assertEqual(holding((4, ((0, 1, 3), (0, 2), (1, 2, 3))), 0), (3, ((0, 2), (1,))))

    def test_by_words(self):
        for offer in some_offers():
            for thing in range(offer[0]):
                has = [lot for lot in offer[1] if thing in lot] or offer[1]
                lacks = [lot for lot in offer[1] if thing not in lot] or offer[1]
                for made, lots in ((holding(offer, thing), has), (without(offer, thing), lacks)):
                    self.assertTrue(is_offer(made))
                    self.assertEqual(made, (offer[0] - 1, tuple(sorted(closed_up(lot, thing) for lot in lots))))
                    if is_smooth(offer):
                        self.assertTrue(is_smooth(made))


if __name__ == "__main__":
    unittest.main()

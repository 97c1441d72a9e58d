import unittest

from takersrest.apart import apart, bar
from takersrest.builders import choose, parts, renamed, trees
from takersrest.sources import seats
from takersrest.swaps import together
from tests.helpers import all_sets, choices_of, is_bar_by_words, load_by_words, random_numbers, ranks_of, smooth_by_size

GREAT = 10 ** 4000


def are_apart(choice, size, limit):
    return all(load_by_words(choice, thing) <= limit for thing in range(size))


class Apart(unittest.TestCase):
    def assert_one_is_told(self, offers, limit):
        """Judge what is told by the words of point 35; returns whether the offers can be apart."""
        choice = apart(offers, limit)
        found = bar(offers, limit)
        self.assertIs(choice is None, found is not None)
        if choice is None:
            self.assertTrue(is_bar_by_words(offers, limit, found))
            return False
        self.assertIs(type(choice), tuple)
        self.assertEqual(len(choice), len(offers))
        for offer, lot in zip(offers, choice):
            self.assertIn(lot, offer[1])
        self.assertTrue(are_apart(choice, offers[0][0], limit))
        return True

    def assert_all_tried(self, offers, limit):
        size = offers[0][0]
        possible = any(are_apart(choice, size, limit) for choice in choices_of([(offer,) for offer in offers]))
        barred = any(is_bar_by_words(offers, limit, things) for things in all_sets(size))
        self.assertIs(possible, not barred)
        self.assertIs(self.assert_one_is_told(offers, limit), possible)

    def test_one_offer(self):
        for offer in (choose(3, 2), (2, ((),)), (0, ((),)), (3, ((0, 1, 2),))):
            for limit in (0, 1, 2, GREAT):
                self.assert_all_tried((offer,), limit)
        self.assertIsNone(apart((choose(3, 2),), 0))
        self.assertIsNone(bar((choose(3, 2),), 1))

    def test_two_takers_want_one_thing(self):
        offers = ((1, ((0,),)),) * 2
        self.assertIsNone(apart(offers, 1))
        self.assertEqual(bar(offers, 1), ())
        self.assertEqual(apart(offers, 2), ((0,), (0,)))
        self.assertIsNone(bar(offers, 2))

    def test_the_bar_leaves_out_what_is_short(self):
        # Three takers for the things 0 and 1, and one who may have 2 or 3.
        two = (4, ((0,), (1,)))
        offers = (two, two, two, (4, ((2,), (3,))))
        self.assertIsNone(apart(offers, 1))
        self.assertTrue(is_bar_by_words(offers, 1, bar(offers, 1)))
        self.assertIn(bar(offers, 1), ((2,), (3,), (2, 3)))
        self.assert_all_tried(offers, 2)

    def test_a_chain_is_needed(self):
        offers = ((3, ((0,), (1,))), (3, ((1,), (2,))), (3, ((0,),)))
        self.assertEqual(apart(offers, 1), ((1,), (2,), (0,)))

    def test_limit_0(self):
        for size in range(4):
            empty = (size, ((),))
            self.assertEqual(apart((empty,) * 6, 0), ((),) * 6)
            self.assertIsNone(bar((empty,) * 6, 0))
            for number in range(1, size + 1):
                for offers in ((choose(size, number),), (empty, choose(size, number)), (choose(size, number), empty)):
                    self.assertIs(self.assert_one_is_told(offers, 0), False)

    def test_size_0(self):
        for limit in (0, 1, GREAT):
            self.assertEqual(apart(((0, ((),)),) * 3, limit), ((), (), ()))
            self.assertIsNone(bar(((0, ((),)),) * 3, limit))

    def test_a_limit_of_the_number_of_offers_and_greater_ones(self):
        for takers in (1, 2, 6):
            offers = ((4, ((0, 1, 2, 3),)),) * takers
            for limit in (takers, takers + 1, GREAT):
                self.assertEqual(apart(offers, limit), ((0, 1, 2, 3),) * takers)
                self.assertIsNone(bar(offers, limit))
            self.assertIs(self.assert_one_is_told(offers, takers - 1), False)

    def test_by_words(self):
        draw = random_numbers(35)
        smooth = smooth_by_size()
        verdicts = []
        for takers, most_lots in ((1, 9), (2, 9), (3, 6), (4, 4), (6, 3)):
            for size in (1, 2, 3, 4):
                fitting = [offer for offer in smooth[size] if len(offer[1]) <= most_lots]
                for _ in range(6):
                    offers = tuple(fitting[draw(len(fitting))] for _ in range(takers))
                    for limit in range(takers + 2):
                        self.assert_all_tried(offers, limit)
                        verdicts.append(bar(offers, limit) is None)
        self.assertGreater(verdicts.count(True), 40)
        self.assertGreater(verdicts.count(False), 40)

    def test_the_same_offer_several_times(self):
        for offer in (choose(4, 2), parts(((2, 1), (2, 1))), trees(3, ((0, 1), (1, 2), (0, 1), (0, 2)))):
            for takers in (2, 3, 4):
                for limit in range(takers + 1):
                    self.assert_all_tried((offer,) * takers, limit)

    def test_six_to_twelve_things(self):
        draw = random_numbers(36)
        verdicts = []
        for size in (6, 7, 9, 12):
            half = size // 2
            offers = [
                choose(size, 2), choose(size, 1), choose(size, size - 1), (size, (tuple(range(size)),)),
                parts(((2, 1), (2, 1), (size - 4, 1))), renamed(choose(half, half - 1), tuple(range(half)), size),
                renamed(choose(half, 2), tuple(range(size - half, size)), size),
                seats(size, (tuple(range(half)), (0, size - 1), (0, 1))),
            ]
            for takers in (2, 3, 4, 5, 6):
                for _ in range(4):
                    chosen = tuple(offers[draw(len(offers))] for _ in range(takers))
                    verdicts += [self.assert_one_is_told(chosen, limit) for limit in range(takers + 1)]
        self.assertGreater(verdicts.count(True), 60)
        self.assertGreater(verdicts.count(False), 60)

    def test_trees_of_one_net(self):
        # Six roads between four points hold two trees without a common road, but not three.
        net = trees(4, ((0, 1), (0, 2), (0, 3), (1, 2), (1, 3), (2, 3)))
        self.assertIs(self.assert_one_is_told((net,) * 2, 1), True)
        self.assertIs(self.assert_one_is_told((net,) * 3, 1), False)
        self.assertIs(self.assert_one_is_told((net,) * 4, 2), True)
        self.assertIs(self.assert_one_is_told((net,) * 5, 2), False)
        self.assertIs(self.assert_one_is_told((net,) * 6, 3), True)

    def test_two_are_apart_as_their_union_offer_tells(self):
        smooth = smooth_by_size()
        for size in (2, 3):
            everything = tuple(range(size))
            for first in smooth[size]:
                for second in smooth[size]:
                    fits = ranks_of((together(first, second),), everything) == ranks_of((first, second), everything)
                    self.assertIs(apart((first, second), 1) is not None, fits)


if __name__ == "__main__":
    unittest.main()

import unittest
from itertools import combinations, permutations, product

from takersrest.errors import BadThing, NestedLots, NoLots, TakersrestError
from takersrest.offers import cut, first_fault, is_free, is_smooth, make_offer, opposite, rank
from tests.helpers import (
    all_sets,
    faults_by_words,
    is_free_by_words,
    is_offer,
    rank_by_words,
    some_offers,
)

UNLIKE = (6, ((0, 1, 2), (0, 3), (1, 3, 4, 5), (2, 4)))


class MakeOffer(unittest.TestCase):
    def bad_position(self, size, lots):
        with self.assertRaises(BadThing) as caught:
            make_offer(size, lots)
        return caught.exception.position

    def nested(self, size, lots):
        with self.assertRaises(NestedLots) as caught:
            make_offer(size, lots)
        return caught.exception.inner, caught.exception.outer

    def test_example(self):
        self.assertEqual(make_offer(3, [[2, 0], [1], [0, 2]]), (3, ((0, 2), (1,))))

    def test_order_does_not_matter(self):
        rows = [(3, 1), (0, 2, 1), (2, 3), (0, 3)]
        for order in permutations(rows):
            self.assertEqual(make_offer(4, list(order)), (4, ((0, 1, 2), (0, 3), (1, 3), (2, 3))))

    def test_order_of_great_things(self):
        self.assertEqual(make_offer(12, [[11, 8, 1, 3], [8, 0]]), (12, ((0, 8), (1, 3, 8, 11))))
        self.assertEqual(make_offer(40, [[32, 1], [8, 2, 16]]), (40, ((1, 32), (2, 8, 16))))

    def test_duplicates_within_and_among(self):
        self.assertEqual(make_offer(3, [[1, 1, 0, 1], (0, 1), [2, 2]]), (3, ((0, 1), (2,))))
        self.assertEqual(make_offer(3, ((1, 0), (0, 0, 1))), (3, ((0, 1),)))

    def test_a_lot_twice_is_not_nested(self):
        self.assertEqual(make_offer(2, [[0, 1], [1, 0]]), (2, ((0, 1),)))

    def test_lists_and_tuples(self):
        wanted = (4, ((0, 3), (1, 2)))
        for outer, inner in product((list, tuple), repeat=2):
            made = make_offer(4, outer([inner([2, 1]), inner([3, 0])]))
            self.assertEqual(made, wanted)
            self.assertTrue(is_offer(made))

    def test_passed_lists_stay(self):
        rows = [[2, 0, 2], [1], [0, 2]]
        make_offer(3, rows)
        self.assertEqual(rows, [[2, 0, 2], [1], [0, 2]])
        self.assertEqual(make_offer(3, rows), make_offer(3, rows))

    def test_size_0_and_the_empty_lot(self):
        self.assertEqual(make_offer(0, [[]]), (0, ((),)))
        self.assertEqual(make_offer(0, ((), [])), (0, ((),)))
        self.assertEqual(make_offer(4, [[]]), (4, ((),)))
        self.assertEqual(self.bad_position(0, [[], [0]]), 1)

    def test_things_that_no_lot_has(self):
        self.assertEqual(make_offer(12, [[7]]), (12, ((7,),)))

    def test_no_lots(self):
        for size in (0, 1, 5):
            for rows in ([], ()):
                with self.assertRaises(NoLots):
                    make_offer(size, rows)

    def test_bad_thing_at_each_position(self):
        for number in (-1, 3, 4, -(10 ** 30), 10 ** 9999):
            self.assertEqual(self.bad_position(3, [[number], [0], [1]]), 0)
            self.assertEqual(self.bad_position(3, [[0], [1, number], [2]]), 1)
            self.assertEqual(self.bad_position(3, ([0], [0], (2, 1, number))), 2)

    def test_the_first_bad_position_counts_passed_lots(self):
        self.assertEqual(self.bad_position(3, [[0], [0], [0], [9], [-1]]), 3)
        self.assertEqual(self.bad_position(3, [[2], [5, -5], [4], [-1]]), 1)

    def test_greatest_and_least_thing_are_allowed(self):
        self.assertEqual(make_offer(3, [[2], [0]]), (3, ((0,), (2,))))

    def test_nested_least_inner_then_least_outer(self):
        self.assertEqual(self.nested(3, [[0, 1], [1]]), ((1,), (0, 1)))
        self.assertEqual(self.nested(4, [[2, 3], [3], [2], [0, 3], [0, 2]]), ((2,), (0, 2)))
        self.assertEqual(self.nested(3, [[0, 1, 2], [1, 2], [0, 1]]), ((0, 1), (0, 1, 2)))
        self.assertEqual(self.nested(3, [[2], [0, 1], []]), ((), (0, 1)))

    def test_outer_may_be_less_than_inner(self):
        self.assertEqual(self.nested(4, [[2, 3], [3], [0, 1, 2, 3]]), ((2, 3), (0, 1, 2, 3)))
        self.assertEqual(self.nested(4, [[2], [1, 2], [0, 3]]), ((2,), (1, 2)))

    def test_nested_after_removing_duplicates(self):
        self.assertEqual(self.nested(3, [[1, 1], [1], [1, 2, 2], [2, 1]]), ((1,), (1, 2)))

    def test_bad_thing_before_nested_lots(self):
        self.assertEqual(self.bad_position(3, [[0], [0, 1], [3]]), 2)
        self.assertEqual(self.bad_position(3, [[0, 1, 3], [0, 1]]), 0)

    def test_every_row_of_sets(self):
        sets = all_sets(3)
        for count in (1, 2, 3):
            for rows in combinations(sets, count):
                pairs = [(a, b) for a in sorted(rows) for b in sorted(rows) if a != b and set(a) <= set(b)]
                if pairs:
                    self.assertEqual(self.nested(3, rows[::-1]), pairs[0])
                else:
                    self.assertEqual(make_offer(3, rows[::-1]), (3, tuple(sorted(rows))))

    def test_errors_are_of_the_program(self):
        for size, rows in ((1, []), (1, [[1]]), (1, [[], [0]])):
            with self.assertRaises(TakersrestError):
                make_offer(size, rows)


class FreeSets(unittest.TestCase):
    def test_is_free_and_rank_for_every_set(self):
        for offer in some_offers():
            for things in all_sets(min(offer[0], 7)):
                self.assertIs(is_free(offer, things), is_free_by_words(offer, things))
                self.assertEqual(rank(offer, things), rank_by_words(offer, things))

    def test_unlike_numbers(self):
        self.assertTrue(is_free(UNLIKE, (1, 4, 5)))
        self.assertFalse(is_free(UNLIKE, (0, 4)))
        self.assertEqual(rank(UNLIKE, (0, 4)), 1)
        self.assertEqual(rank(UNLIKE, tuple(range(6))), 4)
        self.assertEqual(rank(UNLIKE, (0, 1, 2, 3)), 3)

    def test_empty_set_and_all_things(self):
        self.assertIs(is_free(UNLIKE, ()), True)
        self.assertEqual(rank(UNLIKE, ()), 0)
        self.assertIs(is_free((0, ((),)), ()), True)
        self.assertEqual(rank((0, ((),)), ()), 0)
        self.assertIs(is_free((2, ((0, 1),)), (0, 1)), True)
        self.assertIs(is_free((2, ((0,), (1,))), (0, 1)), False)


class Cuts(unittest.TestCase):
    def test_every_cut(self):
        for offer in some_offers():
            greatest = max(len(lot) for lot in offer[1])
            for count in range(min(greatest, 5) + 1):
                wanted = [s for s in combinations(range(offer[0]), count) if is_free_by_words(offer, s)]
                self.assertEqual(cut(offer, count), (offer[0], tuple(wanted)))

    def test_count_0_and_rank(self):
        self.assertEqual(cut(UNLIKE, 0), (6, ((),)))
        self.assertEqual(cut(UNLIKE, 4), (6, ((1, 3, 4, 5),)))
        self.assertEqual(cut((12, (tuple(range(12)),)), 12), (12, (tuple(range(12)),)))
        self.assertEqual(cut((0, ((),)), 0), (0, ((),)))

    def test_lots_with_fewer_things_bring_nothing(self):
        self.assertEqual(cut((4, ((0, 1, 2), (3,))), 2), (4, ((0, 1), (0, 2), (1, 2))))


class Opposite(unittest.TestCase):
    def test_unlike_numbers(self):
        self.assertEqual(opposite(UNLIKE), (6, ((0, 1, 3, 5), (0, 2), (1, 2, 4, 5), (3, 4, 5))))

    def test_empty_lot_and_full_lot(self):
        self.assertEqual(opposite((3, ((),))), (3, ((0, 1, 2),)))
        self.assertEqual(opposite((3, ((0, 1, 2),))), (3, ((),)))
        self.assertEqual(opposite((0, ((),))), (0, ((),)))

    def test_twice_is_the_offer(self):
        for offer in some_offers():
            other = opposite(offer)
            self.assertTrue(is_offer(other))
            self.assertEqual(opposite(other), offer)
            wanted = {tuple(t for t in range(offer[0]) if t not in lot) for lot in offer[1]}
            self.assertEqual(set(other[1]), wanted)


class Smooth(unittest.TestCase):
    def test_example(self):
        self.assertEqual(first_fault((3, ((0, 2), (1,)))), ((0, 2), 0, (1,)))

    def test_every_small_offer(self):
        for offer in some_offers():
            faults = faults_by_words(offer)
            self.assertEqual(first_fault(offer), faults[0] if faults else None)
            self.assertIs(is_smooth(offer), not faults)

    def test_order_is_lot_then_thing_then_other(self):
        offer = (6, ((0, 1, 2), (0, 3, 4), (1, 3, 5), (2, 4, 5)))
        self.assertEqual(first_fault(offer), ((0, 1, 2), 0, (1, 3, 5)))
        self.assertEqual(first_fault((4, ((0, 1), (2, 3)))), ((0, 1), 0, (2, 3)))
        self.assertEqual(first_fault((5, ((0, 1), (0, 2), (3, 4)))), ((0, 1), 0, (3, 4)))
        self.assertEqual(first_fault((5, ((0, 1), (0, 4), (1, 4), (2, 3)))), ((0, 1), 0, (2, 3)))

    def test_faults_with_a_later_lot_thing_or_other(self):
        later_other = (4, ((0, 1), (1, 2), (3,)))
        self.assertEqual(first_fault(later_other), ((0, 1), 0, (3,)))
        later_thing = (4, ((0, 2), (1, 2), (1, 3)))
        self.assertEqual(first_fault(later_thing), ((0, 2), 2, (1, 3)))
        later_lot = (4, ((0, 1), (0, 3), (1, 2)))
        self.assertEqual(first_fault(later_lot), ((0, 3), 0, (1, 2)))
        later_lot_and_thing = (4, ((0, 2), (0, 3), (1, 2), (2, 3)))
        self.assertEqual(first_fault(later_lot_and_thing), ((1, 2), 2, (0, 3)))
        self.assertEqual(first_fault((4, ((0, 1, 2), (0, 3)))), ((0, 1, 2), 1, (0, 3)))

    def test_smooth_ones(self):
        for offer in ((0, ((),)), (3, ((),)), (3, ((0, 1, 2),)), (3, ((0,), (2,))), (4, ((0, 2), (0, 3), (1, 2), (1, 3)))):
            self.assertIsNone(first_fault(offer))
            self.assertIs(is_smooth(offer), True)

    def test_unlike_numbers_are_never_smooth(self):
        for offer in some_offers():
            if is_smooth(offer):
                self.assertEqual(len({len(lot) for lot in offer[1]}), 1)

    def test_cuts_and_opposites_of_smooth_offers(self):
        for offer in some_offers():
            if is_smooth(offer):
                self.assertTrue(is_smooth(opposite(offer)))
                for count in range(min(4, len(offer[1][0])) + 1):
                    self.assertTrue(is_smooth(cut(offer, count)))


if __name__ == "__main__":
    unittest.main()

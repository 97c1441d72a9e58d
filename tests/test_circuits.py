import unittest
from itertools import combinations, permutations, product

from takersrest.builders import beside, choose, parts, renamed, trees
from takersrest.circuits import circuit_fault, from_circuits, piece_offer, pieces
from takersrest.offers import is_smooth
from takersrest.smaller import circuits
from tests.helpers import all_sets, antichains, circuits_by_words, is_offer, some_offers


def told_lots(size, barred):
    sets = [set(things) for things in all_sets(size)]
    open_sets = [things for things in sets if not any(set(row) <= things for row in barred)]
    return tuple(sorted(
        tuple(sorted(things)) for things in open_sets
        if all(things | {t} not in open_sets for t in range(size) if t not in things)
    ))


def circuit_faults(offer):
    rows = circuits_by_words(offer)
    return [
        (first, second, thing)
        for first in rows
        for second in rows
        for thing in first
        if first != second and thing in second
        and not any(set(row) <= (set(first) | set(second)) - {thing} for row in rows)
    ]


def pieces_by_words(offer):
    rows = circuits_by_words(offer)
    return tuple(sorted({
        tuple(u for u in range(offer[0]) if u == t or any(t in row and u in row for row in rows))
        for t in range(offer[0])
    }))


def lots_of_piece(offer, piece):
    return tuple(sorted({tuple(piece.index(t) for t in lot if t in piece) for lot in offer[1]}))


class FromCircuits(unittest.TestCase):
    def test_no_circuits(self):
        self.assertEqual(from_circuits(0, ()), (0, ((),)))
        self.assertEqual(from_circuits(3, ()), (3, ((0, 1, 2),)))
        self.assertEqual(from_circuits(12, ()), (12, (tuple(range(12)),)))

    def test_circuits_of_one_thing(self):
        self.assertEqual(from_circuits(3, ((1,),)), (3, ((0, 2),)))
        self.assertEqual(from_circuits(2, ((1,), (0,))), (2, ((),)))

    def test_any_order(self):
        rows = ((0, 1, 2), (0, 3), (1, 3), (2, 3))
        for order in permutations(rows):
            self.assertEqual(from_circuits(4, order), (4, ((0, 1), (0, 2), (1, 2), (3,))))

    def test_by_words_and_back(self):
        for size in range(5):
            for barred in antichains([things for things in all_sets(size) if things]):
                offer = from_circuits(size, barred[::-1])
                self.assertTrue(is_offer(offer))
                self.assertEqual(offer, (size, told_lots(size, barred)))
                self.assertEqual(circuits(offer), tuple(sorted(barred)))

    def test_many_things(self):
        self.assertEqual(from_circuits(12, tuple(combinations(range(12), 3))), choose(12, 2))
        for offer in some_offers():
            self.assertEqual(from_circuits(offer[0], circuits(offer)[::-1]), offer)


class CircuitFault(unittest.TestCase):
    def test_none_exactly_for_smooth_offers(self):
        for offer in some_offers():
            self.assertEqual(circuit_fault(offer) is None, is_smooth(offer))

    def test_the_first_one(self):
        for offer in some_offers():
            if offer[0] < 8:
                faults = circuit_faults(offer)
                self.assertEqual(circuit_fault(offer), min(faults) if faults else None)

    def test_examples(self):
        self.assertEqual(circuit_fault((3, ((0, 2), (1,)))), ((0, 1), (1, 2), 1))
        self.assertIsNone(circuit_fault((0, ((),))))
        self.assertIsNone(circuit_fault((12, (tuple(range(12)),))))
        self.assertIsNone(circuit_fault(choose(12, 2)))

    def test_later_circuits_and_later_things(self):
        offer = beside(choose(3, 1), (3, ((0, 2), (1,))))
        self.assertEqual(circuit_fault(offer), ((3, 4), (4, 5), 4))
        offer = from_circuits(5, ((0, 1), (0, 2), (1, 2), (2, 3, 4)))
        self.assertEqual(circuit_fault(offer), min(circuit_faults(offer)))
        offer = from_circuits(4, ((0, 1, 2), (0, 1, 3)))
        self.assertEqual(circuit_fault(offer), ((0, 1, 2), (0, 1, 3), 0))
        offer = from_circuits(9, ((1, 2), (2, 8)))
        self.assertEqual(circuit_fault(offer), ((1, 2), (2, 8), 2))
        offer = from_circuits(5, ((0, 1, 2), (0, 1, 3), (1, 2, 3)))
        self.assertEqual(circuit_fault(offer), ((0, 1, 2), (0, 1, 3), 1))


class Pieces(unittest.TestCase):
    def test_one_piece(self):
        self.assertEqual(pieces(choose(4, 2)), ((0, 1, 2, 3),))
        self.assertEqual(piece_offer(choose(4, 2), (0, 1, 2, 3)), choose(4, 2))

    def test_no_things(self):
        self.assertEqual(pieces((0, ((),))), ())

    def test_things_in_every_lot_and_in_none(self):
        offer = (4, ((0, 1), (0, 3)))
        self.assertEqual(pieces(offer), ((0,), (1, 3), (2,)))
        self.assertEqual(piece_offer(offer, (0,)), (1, ((0,),)))
        self.assertEqual(piece_offer(offer, (1, 3)), (2, ((0,), (1,))))
        self.assertEqual(piece_offer(offer, (2,)), (1, ((),)))
        self.assertEqual(pieces(choose(3, 3)), ((0,), (1,), (2,)))
        self.assertEqual(pieces(choose(3, 0)), ((0,), (1,), (2,)))

    def test_mixed_numbering(self):
        offer = renamed(parts(((3, 1), (3, 2))), (4, 0, 2, 5, 1, 3), 6)
        self.assertEqual(pieces(offer), ((0, 2, 4), (1, 3, 5)))
        self.assertEqual(piece_offer(offer, (0, 2, 4)), choose(3, 1))
        self.assertEqual(piece_offer(offer, (1, 3, 5)), choose(3, 2))

    def test_numbering_within_a_piece(self):
        offer = renamed(trees(3, ((0, 1), (1, 2), (0, 1), (1, 2))), (5, 1, 2, 3), 6)
        self.assertEqual(pieces(offer), ((0,), (1, 3), (2, 5), (4,)))
        self.assertEqual(piece_offer(offer, (2, 5)), (2, ((0,), (1,))))
        offer = renamed(trees(3, ((0, 1), (1, 2), (0, 1), (0, 2))), (6, 1, 3, 4), 7)
        self.assertEqual(pieces(offer), ((0,), (1, 3, 4, 6), (2,), (5,)))
        self.assertEqual(piece_offer(offer, (1, 3, 4, 6)), (4, ((0, 1), (0, 2), (0, 3), (1, 2), (2, 3))))

    def test_two_things_in_a_long_circuit_only(self):
        self.assertEqual(pieces(choose(12, 11)), (tuple(range(12)),))

    def test_great_things(self):
        offer = renamed(choose(2, 1), (8, 1), 10)
        self.assertEqual(pieces(offer), ((0,), (1, 8), (2,), (3,), (4,), (5,), (6,), (7,), (9,)))
        self.assertEqual(piece_offer(offer, (1, 8)), choose(2, 1))

    def test_by_words(self):
        for offer in some_offers():
            if offer[0] < 8 and is_smooth(offer):
                found = pieces(offer)
                self.assertEqual(found, pieces_by_words(offer))
                made = []
                for piece in found:
                    small = piece_offer(offer, piece)
                    self.assertTrue(is_offer(small))
                    self.assertEqual(small, (len(piece), lots_of_piece(offer, piece)))
                    made.append([tuple(piece[t] for t in lot) for lot in small[1]])
                unions = sorted(tuple(sorted(sum(chosen, ()))) for chosen in product(*made))
                self.assertEqual(offer[1], tuple(unions))


if __name__ == "__main__":
    unittest.main()

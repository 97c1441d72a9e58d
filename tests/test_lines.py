import unittest
from itertools import combinations, permutations, product

from takersrest.builders import pairings, ways
from takersrest.errors import NoPairing, NoWay
from takersrest.lines import pair_mates, way_lines
from takersrest.offers import is_smooth

SQUARE = ((0, 1), (1, 2), (2, 3), (3, 0))
COMPLETE = tuple(combinations(range(4), 2))


def every_roads(points, most):
    pairs = list(product(range(points), repeat=2))
    return [roads for count in range(most + 1) for roads in product(pairs, repeat=count)]


def lines_by_words(points, roads, start, end):
    joined = {frozenset(road) for road in roads}
    inner = [point for point in range(points) if point not in (start, end)]
    lines = [
        (start,) + middle + (end,)
        for count in range(len(inner) + 1)
        for middle in permutations(inner, count)
    ]
    return tuple(sorted(
        line for line in lines if all(frozenset(step) in joined for step in zip(line, line[1:]))
    ))


def mates_by_words(points, roads):
    found = set()
    for count in range(len(roads) + 1):
        for chosen in combinations(roads, count):
            if sorted(point for road in chosen for point in road) == list(range(points)):
                found.add(tuple(sorted((min(road), max(road)) for road in chosen)))
    return tuple(sorted(found))


class WayLines(unittest.TestCase):
    def test_square(self):
        self.assertEqual(way_lines(4, SQUARE, 0, 2), ((0, 1, 2), (0, 3, 2)))
        self.assertEqual(way_lines(4, SQUARE, 0, 3), ((0, 1, 2, 3), (0, 3)))

    def test_ends_exchanged(self):
        self.assertEqual(way_lines(4, SQUARE, 3, 0), ((3, 0), (3, 2, 1, 0)))
        for start, end in permutations(range(4), 2):
            there = way_lines(4, COMPLETE, start, end)
            back = way_lines(4, COMPLETE, end, start)
            self.assertEqual(there, tuple(sorted(line[::-1] for line in back)))

    def test_several_roads_give_one_line(self):
        self.assertEqual(way_lines(3, ((0, 1), (1, 0), (2, 1), (1, 2)), 0, 2), ((0, 1, 2),))

    def test_roads_from_a_point_to_itself(self):
        self.assertEqual(way_lines(2, ((0, 0), (1, 0), (1, 1)), 0, 1), ((0, 1),))

    def test_no_way(self):
        for points, roads in ((2, ()), (2, ((0, 0), (1, 1))), (4, ((0, 2), (1, 3)))):
            with self.assertRaises(NoWay):
                way_lines(points, roads, 0, 1)

    def test_by_words(self):
        for points, most in ((2, 3), (3, 3)):
            for roads in every_roads(points, most):
                wanted = lines_by_words(points, roads, points - 1, 0)
                if wanted:
                    self.assertEqual(way_lines(points, roads, points - 1, 0), wanted)
                    smooth = is_smooth(ways(points, roads, points - 1, 0))
                    self.assertEqual(smooth, len(wanted) == 1)
                else:
                    with self.assertRaises(NoWay):
                        way_lines(points, roads, points - 1, 0)


class PairMates(unittest.TestCase):
    def test_square_and_complete(self):
        self.assertEqual(pair_mates(4, SQUARE), (((0, 1), (2, 3)), ((0, 3), (1, 2))))
        self.assertEqual(pair_mates(4, COMPLETE), (
            ((0, 1), (2, 3)), ((0, 2), (1, 3)), ((0, 3), (1, 2)),
        ))

    def test_lesser_point_first_and_pairs_in_order(self):
        self.assertEqual(pair_mates(4, ((3, 2), (1, 0))), (((0, 1), (2, 3)),))
        self.assertEqual(pair_mates(6, ((5, 1), (4, 0), (3, 2))), (((0, 4), (1, 5), (2, 3)),))

    def test_several_roads_give_one(self):
        self.assertEqual(pair_mates(2, ((0, 1), (1, 0), (0, 0))), (((0, 1),),))

    def test_no_pairing(self):
        for points, roads in ((1, ()), (1, ((0, 0),)), (2, ((0, 0), (1, 1))), (3, ((0, 1), (1, 2)))):
            with self.assertRaises(NoPairing):
                pair_mates(points, roads)

    def test_by_words(self):
        for points, most in ((1, 2), (2, 3), (3, 2), (4, 2), (4, 3)):
            for roads in every_roads(points, most):
                wanted = mates_by_words(points, roads)
                if wanted:
                    self.assertEqual(pair_mates(points, roads), wanted)
                    self.assertEqual(is_smooth(pairings(points, roads)), len(wanted) == 1)
                else:
                    with self.assertRaises(NoPairing):
                        pair_mates(points, roads)


if __name__ == "__main__":
    unittest.main()

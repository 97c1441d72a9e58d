import unittest
from itertools import combinations, permutations, product

from takersrest.builders import beside, choose, pairings, parts, renamed, trees, ways
from takersrest.errors import NoPairing, NotJoined, NoWay
from takersrest.offers import is_smooth
from tests.helpers import all_offers, all_sets, is_offer, is_smooth_by_words, some_offers

SQUARE = ((0, 1), (1, 2), (2, 3), (3, 0))
COMPLETE = tuple(combinations(range(4), 2))


def all_roads(points, most):
    """Every tuple of at most most roads, in one direction, also from a point to itself."""
    pairs = [(u, v) for u in range(points) for v in range(u, points)]
    return [roads for count in range(most + 1) for roads in product(pairs, repeat=count)]


def turned(roads):
    """The roads with every second one written in the other direction."""
    return tuple((v, u) if at % 2 == 0 else (u, v) for at, (u, v) in enumerate(roads))


def reached(points, roads, chosen, start):
    met = {start}
    for _ in range(points):
        for at in chosen:
            if met & set(roads[at]):
                met |= set(roads[at])
    return met


def tree_lots(points, roads):
    return tuple(
        chosen for chosen in combinations(range(len(roads)), points - 1)
        if len(reached(points, roads, chosen, 0)) == points
    )


def way_lots(points, roads, start, end):
    found = set()
    inner = [point for point in range(points) if point not in (start, end)]
    for count in range(len(inner) + 1):
        for middle in permutations(inner, count):
            line = (start,) + middle + (end,)
            steps = [
                [at for at, road in enumerate(roads) if sorted(road) == sorted(step)]
                for step in zip(line, line[1:])
            ]
            found |= {tuple(sorted(used)) for used in product(*steps)}
    return tuple(sorted(found))


def pairing_lots(points, roads):
    return tuple(sorted(
        chosen for chosen in all_sets(len(roads))
        if sorted(point for at in chosen for point in roads[at]) == list(range(points))
    ))


class Choose(unittest.TestCase):
    def test_example(self):
        self.assertEqual(choose(3, 2), (3, ((0, 1), (0, 2), (1, 2))))

    def test_every_choice(self):
        for size in range(8):
            for count in range(size + 1):
                offer = choose(size, count)
                self.assertEqual(offer, (size, tuple(combinations(range(size), count))))
                self.assertTrue(is_offer(offer))
                self.assertTrue(is_smooth(offer))

    def test_counts_0_and_size(self):
        self.assertEqual(choose(0, 0), (0, ((),)))
        self.assertEqual(choose(12, 0), (12, ((),)))
        self.assertEqual(choose(12, 12), (12, (tuple(range(12)),)))
        self.assertEqual(len(choose(12, 2)[1]), 66)


class Parts(unittest.TestCase):
    def test_no_groups_and_empty_groups(self):
        self.assertEqual(parts(()), (0, ((),)))
        self.assertEqual(parts(((0, 0),)), (0, ((),)))
        self.assertEqual(parts(((0, 0), (2, 1), (0, 0))), (2, ((0,), (1,))))

    def test_numbering_through_the_groups(self):
        self.assertEqual(parts(((2, 1), (3, 2))), (5, (
            (0, 2, 3), (0, 2, 4), (0, 3, 4), (1, 2, 3), (1, 2, 4), (1, 3, 4),
        )))

    def test_numbers_0_and_all(self):
        self.assertEqual(parts(((2, 0), (1, 1), (2, 2))), (5, ((2, 3, 4),)))
        self.assertEqual(parts(((3, 0),)), (3, ((),)))
        self.assertEqual(parts(((4, 2),)), choose(4, 2))

    def test_by_words(self):
        pairs = [(count, number) for count in range(4) for number in range(count + 1)]
        for groups in product(pairs, repeat=2):
            size = sum(count for count, _ in groups)
            border = groups[0][0]
            wanted = sorted(
                things for things in all_sets(size)
                if len([t for t in things if t < border]) == groups[0][1]
                and len([t for t in things if t >= border]) == groups[1][1]
            )
            offer = parts(groups)
            self.assertEqual(offer, (size, tuple(wanted)))
            self.assertTrue(is_smooth(offer))


class Beside(unittest.TestCase):
    def test_numbers_behind_the_first(self):
        self.assertEqual(beside(choose(2, 1), choose(3, 3)), (5, ((0, 2, 3, 4), (1, 2, 3, 4))))
        self.assertEqual(beside((3, ((0,),)), (2, ((1,),))), (5, ((0, 4),)))

    def test_unlike_lots(self):
        self.assertEqual(
            beside((3, ((0, 1), (2,))), (2, ((0,), (1,)))),
            (5, ((0, 1, 3), (0, 1, 4), (2, 3), (2, 4))),
        )

    def test_size_0(self):
        for offer in all_offers(3):
            self.assertEqual(beside(offer, (0, ((),))), offer)
            self.assertEqual(beside((0, ((),)), offer), offer)

    def test_smooth_exactly_if_both_are(self):
        offers = all_offers(2) + all_offers(3)
        for first, second in product(offers, repeat=2):
            offer = beside(first, second)
            self.assertTrue(is_offer(offer))
            self.assertEqual(len(offer[1]), len(first[1]) * len(second[1]))
            self.assertEqual(is_smooth(offer), is_smooth_by_words(first) and is_smooth_by_words(second))


class Renamed(unittest.TestCase):
    def test_names_that_turn_the_order_about(self):
        self.assertEqual(renamed((3, ((0, 1), (2,))), (2, 1, 0), 3), (3, ((0,), (1, 2))))
        self.assertEqual(renamed((3, ((0, 1), (0, 2))), (1, 2, 0), 3), (3, ((0, 1), (1, 2))))

    def test_greater_size(self):
        self.assertEqual(renamed((2, ((0,), (1,))), (9, 4), 12), (12, ((4,), (9,))))
        self.assertEqual(renamed((12, choose(12, 1)[1]), tuple(range(23, 11, -1)), 24)[1][0], (12,))
        self.assertEqual(renamed((0, ((),)), (), 0), (0, ((),)))
        self.assertEqual(renamed((0, ((),)), (), 5), (5, ((),)))

    def test_same_names_change_nothing(self):
        for offer in some_offers():
            self.assertEqual(renamed(offer, tuple(range(offer[0])), offer[0]), offer)

    def test_every_naming_and_back(self):
        for offer in all_offers(3):
            for names in permutations(range(4), 3):
                other = renamed(offer, names, 4)
                self.assertTrue(is_offer(other))
                self.assertEqual({frozenset(lot) for lot in other[1]},
                                 {frozenset(names[thing] for thing in lot) for lot in offer[1]})
                self.assertEqual(is_smooth(other), is_smooth_by_words(offer))


class Trees(unittest.TestCase):
    def test_example(self):
        self.assertEqual(trees(3, ((0, 1), (1, 2), (0, 1))), (3, ((0, 1), (1, 2))))

    def test_one_point(self):
        self.assertEqual(trees(1, ()), (0, ((),)))
        self.assertEqual(trees(1, ((0, 0), (0, 0))), (2, ((),)))

    def test_not_joined(self):
        for points, roads in ((2, ()), (2, ((0, 0), (1, 1))), (3, ((0, 1), (1, 0))), (4, ((0, 1), (2, 3), (1, 0)))):
            with self.assertRaises(NotJoined):
                trees(points, roads)
        with self.assertRaises(NotJoined):
            trees(12, tuple((at, at + 1) for at in range(10)))

    def test_equal_ends_and_several_roads(self):
        self.assertEqual(trees(2, ((0, 0), (0, 1), (1, 0), (1, 1))), (4, ((1,), (2,))))

    def test_both_directions(self):
        for roads in (SQUARE, COMPLETE, ((2, 1), (1, 0), (0, 2), (2, 3))):
            self.assertEqual(trees(4, turned(roads)), trees(4, roads))

    def test_counts(self):
        self.assertEqual(len(trees(4, COMPLETE)[1]), 16)
        self.assertEqual(trees(4, SQUARE), choose(4, 3))
        ring = tuple((at, (at + 1) % 12) for at in range(12))
        self.assertEqual(trees(12, ring), choose(12, 11))
        fan = tuple((0, at) for at in range(1, 12)) + ((5, 5),)
        self.assertEqual(trees(12, fan), (12, (tuple(range(11)),)))

    def test_by_words(self):
        for points, most in ((1, 3), (2, 4), (3, 4), (4, 3)):
            for roads in all_roads(points, most):
                wanted = tree_lots(points, roads)
                if wanted:
                    offer = trees(points, roads)
                    self.assertEqual(offer, (len(roads), wanted))
                    self.assertTrue(is_smooth(offer))
                else:
                    with self.assertRaises(NotJoined):
                        trees(points, roads)


class Ways(unittest.TestCase):
    def test_square(self):
        self.assertEqual(ways(4, SQUARE, 0, 2), (4, ((0, 1), (2, 3))))
        self.assertEqual(ways(4, SQUARE, 0, 1), (4, ((0,), (1, 2, 3))))

    def test_smooth_for_some_roads_only(self):
        self.assertTrue(is_smooth(ways(3, ((0, 1), (1, 0), (1, 2)), 0, 2)))
        self.assertFalse(is_smooth(ways(4, SQUARE, 0, 2)))

    def test_ends_exchanged_and_directions(self):
        roads = COMPLETE + ((2, 1), (3, 3), (0, 3))
        for start, end in permutations(range(4), 2):
            offer = ways(4, roads, start, end)
            self.assertTrue(is_offer(offer))
            self.assertEqual(ways(4, roads, end, start), offer)
            self.assertEqual(ways(4, turned(roads), start, end), offer)

    def test_several_roads_and_equal_ends(self):
        self.assertEqual(ways(2, ((0, 1), (0, 0), (1, 0), (1, 1)), 0, 1), (4, ((0,), (2,))))

    def test_roads_in_an_order_unlike_the_way(self):
        self.assertEqual(ways(4, ((2, 3), (0, 1), (2, 1)), 0, 3), (3, ((0, 1, 2),)))

    def test_no_way(self):
        for points, roads, start, end in (
            (2, (), 0, 1),
            (2, ((0, 0), (1, 1)), 0, 1),
            (4, ((0, 1), (2, 3)), 0, 3),
            (4, ((0, 1), (2, 3)), 3, 1),
        ):
            with self.assertRaises(NoWay):
                ways(points, roads, start, end)

    def test_twelve_roads_in_a_row(self):
        roads = tuple((at // 2, at // 2 + 1) for at in range(12))
        self.assertEqual(len(ways(7, roads, 0, 6)[1]), 64)

    def test_by_words(self):
        for points, most in ((2, 4), (3, 4), (4, 3)):
            for roads in all_roads(points, most):
                for start, end in ((0, points - 1), (1, 0)):
                    wanted = way_lots(points, roads, start, end)
                    if wanted:
                        self.assertEqual(ways(points, turned(roads), start, end), (len(roads), wanted))
                    else:
                        with self.assertRaises(NoWay):
                            ways(points, roads, start, end)


class Pairings(unittest.TestCase):
    def test_square_and_complete(self):
        self.assertEqual(pairings(4, SQUARE), (4, ((0, 2), (1, 3))))
        self.assertEqual(pairings(4, COMPLETE), (6, ((0, 5), (1, 4), (2, 3))))

    def test_smooth_for_some_roads_only(self):
        self.assertFalse(is_smooth(pairings(4, SQUARE)))
        self.assertTrue(is_smooth(pairings(4, ((0, 1), (1, 0), (2, 3)))))

    def test_roads_in_an_order_unlike_the_points(self):
        roads = ((1, 3), (0, 1), (0, 2), (2, 3))
        self.assertEqual(pairings(4, roads), (4, ((0, 2), (1, 3))))

    def test_several_roads_directions_and_equal_ends(self):
        self.assertEqual(pairings(2, ((1, 0), (0, 0), (0, 1), (1, 1))), (4, ((0,), (2,))))
        self.assertEqual(pairings(4, turned(COMPLETE)), pairings(4, COMPLETE))

    def test_no_pairing(self):
        for points, roads in (
            (1, ()),
            (1, ((0, 0),)),
            (2, ()),
            (2, ((0, 0), (1, 1))),
            (3, ((0, 1), (1, 2), (2, 0))),
            (4, ((0, 1), (0, 2), (0, 3))),
        ):
            with self.assertRaises(NoPairing):
                pairings(points, roads)

    def test_twelve_points(self):
        roads = tuple((at, at + 6) for at in range(6)) + tuple((at + 6, at) for at in range(6))
        offer = pairings(12, roads)
        self.assertEqual(len(offer[1]), 64)
        self.assertTrue(is_offer(offer))

    def test_by_words(self):
        for points, most in ((1, 2), (2, 4), (3, 3), (4, 3)):
            for roads in all_roads(points, most):
                wanted = pairing_lots(points, roads)
                if wanted:
                    self.assertEqual(pairings(points, turned(roads)), (len(roads), wanted))
                else:
                    with self.assertRaises(NoPairing):
                        pairings(points, roads)


if __name__ == "__main__":
    unittest.main()

import unittest
from itertools import combinations, permutations, product

from takersrest.builders import choose
from takersrest.offers import is_smooth
from takersrest.sources import columns, seats
from tests.helpers import all_sets, have_fraction_rank, is_offer

LONG = 10 ** 400 + 7


def column_lots(rows, size):
    count = have_fraction_rank(rows, tuple(range(size)))
    return tuple(
        things for things in combinations(range(size), count) if have_fraction_rank(rows, things) == count
    )


def can_sit(things, groups):
    return any(
        all(thing in groups[at] for thing, at in zip(things, chosen))
        for chosen in permutations(range(len(groups)), len(things))
    )


def seat_lots(size, groups):
    good = [things for things in all_sets(size) if can_sit(things, groups)]
    most = max(len(things) for things in good)
    return tuple(sorted(things for things in good if len(things) == most))


class Columns(unittest.TestCase):
    def test_no_rows_and_no_columns(self):
        self.assertEqual(columns((), 0), (0, ((),)))
        self.assertEqual(columns((), 3), (3, ((),)))
        self.assertEqual(columns(((), ()), 0), (0, ((),)))

    def test_zeros(self):
        self.assertEqual(columns(((0, 0), (0, 0)), 2), (2, ((),)))
        self.assertEqual(columns(((0, 1, 0), (0, 0, 5)), 3), (3, ((1, 2),)))

    def test_equal_columns_multiples_and_sums(self):
        self.assertEqual(columns(((3, 3, 1), (2, 2, 1)), 3), (3, ((0, 2), (1, 2))))
        self.assertEqual(columns(((2, -3, 0), (4, -6, 1)), 3), (3, ((0, 2), (1, 2))))
        self.assertEqual(columns(((1, 0, 1), (0, 1, 1)), 3), choose(3, 2))
        self.assertEqual(columns(((1, 0, 1, 0), (0, 1, 1, 0), (0, 0, 0, 1)), 4), (4, (
            (0, 1, 3), (0, 2, 3), (1, 2, 3),
        )))

    def test_fractions_count(self):
        self.assertEqual(columns(((2, 3), (4, 6)), 2), (2, ((0,), (1,))))
        self.assertEqual(columns(((2, 0, 3), (0, 2, 5), (0, 0, 0)), 3), choose(3, 2))

    def test_not_independent_only_by_a_remainder(self):
        # 1 and 1 and 1 with two of them at a time: dependent if numbers were taken modulo 2.
        self.assertEqual(columns(((1, 1, 0), (0, 1, 1), (1, 0, 1)), 3), choose(3, 3))

    def test_many_digits(self):
        self.assertEqual(columns(((LONG, LONG + 1), (LONG + 1, LONG + 2)), 2), choose(2, 2))
        self.assertEqual(columns(((LONG, 2 * LONG), (3 * LONG, 6 * LONG)), 2), choose(2, 1))
        self.assertEqual(columns(((LONG, 2 * LONG), (3 * LONG, 6 * LONG - 1)), 2), choose(2, 2))
        self.assertEqual(columns(((-LONG, LONG * LONG, 0), (1, -LONG, 0)), 3), (3, ((0,), (1,))))

    def test_many_columns_and_rows(self):
        powers = tuple(tuple(base ** exponent for base in range(-4, 4)) for exponent in range(4))
        self.assertEqual(columns(powers, 8), choose(8, 4))
        powers = tuple(tuple(base ** exponent for base in range(-6, 6)) for exponent in range(10))
        self.assertEqual(columns(powers, 12), choose(12, 10))
        self.assertEqual(columns(powers * 4, 12), choose(12, 10))
        powers = tuple(tuple(base ** exponent for base in range(-6, 6)) for exponent in range(30))
        self.assertEqual(columns(powers, 12), choose(12, 12))

    def test_by_words(self):
        for size, count in ((3, 1), (2, 2), (3, 2), (4, 2)):
            entries = (-1, 0, 2) if size < 4 else (-1, 0)
            for rows in product(product(entries, repeat=size), repeat=count):
                offer = columns(rows, size)
                self.assertEqual(offer, (size, column_lots(rows, size)))
                self.assertTrue(is_smooth(offer))

    def test_by_words_with_more_rows(self):
        for start in range(40):
            rows = tuple(
                tuple((start * 7 + at * at * 3 + line * at * 5 + line) % 5 - 2 for at in range(6))
                for line in range(4)
            )
            offer = columns(rows, 6)
            self.assertEqual(offer, (6, column_lots(rows, 6)))
            self.assertTrue(is_offer(offer))

    def test_rows_stay(self):
        rows = ((4, 6), (2, 3))
        columns(rows, 2)
        self.assertEqual(rows, ((4, 6), (2, 3)))


class Seats(unittest.TestCase):
    def test_no_groups_and_empty_groups(self):
        self.assertEqual(seats(0, ()), (0, ((),)))
        self.assertEqual(seats(0, ((), ())), (0, ((),)))
        self.assertEqual(seats(3, ()), (3, ((),)))
        self.assertEqual(seats(3, ((), ())), (3, ((),)))
        self.assertEqual(seats(3, ((), (0, 2))), (3, ((0,), (2,))))

    def test_equal_groups_are_different_ones(self):
        self.assertEqual(seats(3, ((0, 1, 2),)), choose(3, 1))
        self.assertEqual(seats(3, ((0, 1, 2), (0, 1, 2))), choose(3, 2))
        self.assertEqual(seats(3, ((0, 1, 2),) * 5), choose(3, 3))

    def test_fewer_groups_than_things(self):
        self.assertEqual(seats(4, ((0, 1), (2, 3))), (4, ((0, 2), (0, 3), (1, 2), (1, 3))))

    def test_seated_things_make_room(self):
        self.assertEqual(seats(3, ((0, 1), (0, 2), (0,))), choose(3, 3))
        self.assertEqual(seats(4, ((0, 1, 2), (0,), (1, 3))), (4, (
            (0, 1, 2), (0, 1, 3), (0, 2, 3),
        )))
        ladder = tuple((at, at + 1) for at in range(11)) + ((0,),)
        self.assertEqual(seats(12, ladder), choose(12, 12))

    def test_by_words(self):
        for size, count in ((2, 3), (3, 3), (4, 2)):
            for groups in product(all_sets(size), repeat=count):
                offer = seats(size, groups)
                self.assertEqual(offer, (size, seat_lots(size, groups)))
                self.assertTrue(is_offer(offer))
                self.assertTrue(is_smooth(offer))


if __name__ == "__main__":
    unittest.main()

import unittest

from takersrest.costs import make_costs, straight_costs
from takersrest.errors import BadRow, FallingCosts


class MakeCosts(unittest.TestCase):
    def assert_raises_with(self, error, thing, rows, room):
        with self.assertRaises(error) as caught:
            make_costs(rows, room)
        self.assertEqual(caught.exception.thing, thing)

    def assert_is_table(self, costs):
        self.assertIs(type(costs), tuple)
        for row in costs:
            self.assertIs(type(row), tuple)

    def test_lists_and_tuples(self):
        wanted = ((1, 2), (3, 3))
        for rows in ([[1, 2], [3, 3]], ([1, 2], (3, 3)), [(1, 2), [3, 3]], ((1, 2), (3, 3))):
            costs = make_costs(rows, 2)
            self.assertEqual(costs, wanted)
            self.assert_is_table(costs)

    def test_what_was_passed_stays(self):
        rows = [[1, 2], [3, 3]]
        costs = make_costs(rows, 2)
        self.assertEqual(rows, [[1, 2], [3, 3]])
        rows[0][0] = 9
        rows.append([])
        self.assertEqual(costs, ((1, 2), (3, 3)))

    def test_rows_too_long_and_too_short(self):
        self.assert_raises_with(BadRow, 0, [[1, 2, 3]], 2)
        self.assert_raises_with(BadRow, 0, [[1]], 2)
        self.assert_raises_with(BadRow, 1, [[1, 2], [], [1]], 2)
        self.assert_raises_with(BadRow, 0, [[1]], 0)
        self.assert_raises_with(BadRow, 2, ((), (), (4,)), 0)

    def test_falling(self):
        self.assert_raises_with(FallingCosts, 0, [[2, 1]], 2)
        self.assert_raises_with(FallingCosts, 1, [[1, 2, 3], [1, 3, 2], [3, 2, 1]], 3)
        self.assert_raises_with(FallingCosts, 0, [[-1, -2]], 2)
        self.assert_raises_with(FallingCosts, 0, [[10 ** 99, 10 ** 99 - 1]], 2)
        self.assert_raises_with(FallingCosts, 0, [[2, 1, 5, 6]], 4)

    def test_wrong_in_both_ways(self):
        self.assert_raises_with(BadRow, 0, [[3, 2, 1]], 2)
        self.assert_raises_with(BadRow, 0, [[3, 2]], 3)

    def test_the_first_wrong_row(self):
        self.assert_raises_with(FallingCosts, 1, [[1, 2], [2, 1], [1]], 2)
        self.assert_raises_with(BadRow, 1, [[1, 2], [1], [2, 1]], 2)
        self.assert_raises_with(FallingCosts, 1, [[1, 1], [2, 1], [4, 3]], 2)

    def test_room_0_and_no_rows(self):
        self.assertEqual(make_costs([], 0), ())
        self.assertEqual(make_costs((), 7), ())
        self.assertEqual(make_costs([[], ()], 0), ((), ()))

    def test_room_1_never_falls(self):
        self.assertEqual(make_costs([[5], [-5], [0]], 1), ((5,), (-5,), (0,)))

    def test_entries_below_0_and_great_ones(self):
        rows = ((-3, -3, -1, 0), (-10 ** 5000, 0, 1, 10 ** 5000), (0, 0, 0, 0))
        self.assertEqual(make_costs(rows, 4), rows)


class StraightCosts(unittest.TestCase):
    def test_rates_and_bases(self):
        self.assertEqual(straight_costs(((1, 0), (2, 5), (0, 3), (0, 0)), 3), (
            (1, 2, 3), (7, 9, 11), (3, 3, 3), (0, 0, 0),
        ))

    def test_room_0_and_no_rates(self):
        self.assertEqual(straight_costs(((1, 2), (3, 4)), 0), ((), ()))
        self.assertEqual(straight_costs((), 5), ())
        self.assertEqual(straight_costs((), 0), ())

    def test_great_numbers(self):
        self.assertEqual(straight_costs(((10 ** 60, 7),), 2), ((10 ** 60 + 7, 2 * 10 ** 60 + 7),))

    def test_the_greatest_room(self):
        costs = straight_costs(((3, 1),), 40)
        self.assertEqual(costs, (tuple(3 * k + 1 for k in range(1, 41)),))
        self.assertEqual(make_costs(costs, 40), costs)


if __name__ == "__main__":
    unittest.main()

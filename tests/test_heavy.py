import unittest
from itertools import product

from takersrest.builders import choose, parts, trees
from takersrest.errors import BadWeight, NotSmooth, SmallRoom, UnlikeSizes
from takersrest.heavy import (
    cost_row, heavy_best_lot, heavy_choices, heavy_first_gain, heavy_gain, heavy_is_rest, heavy_loads, heavy_pay,
    heavy_prices, heavy_rests, heavy_settle, make_heavy,
)
from tests.helpers import (
    all_offers, changed_choice, exchanges_by_words, is_smooth_by_words, random_costs, random_numbers, swapped,
)

WAYS = (3, ((0, 2), (1,)))
ONE = choose(2, 1)


def heavy_load_by_words(game, choice, thing):
    return sum(weight for (_, weight), lot in zip(game[1], choice) if thing in lot)


def heavy_pay_by_words(game, choice, taker):
    return sum(game[0][thing][heavy_load_by_words(game, choice, thing) - 1] for thing in choice[taker])


def heavy_pays_by_lot(game, choice, taker):
    return [heavy_pay_by_words(game, changed_choice(choice, taker, lot), taker) for lot in game[1][taker][0][1]]


def is_heavy_rest_by_words(game, choice):
    return all(
        heavy_pay_by_words(game, choice, taker) <= min(heavy_pays_by_lot(game, choice, taker))
        for taker in range(len(game[1]))
    )


def cost_row_by_words(game, choice):
    costs = [game[0][thing][heavy_load_by_words(game, choice, thing) - 1] for lot in choice for thing in lot]
    return tuple(sorted(costs)[::-1])


def random_heavy(draw, offers, takers, least, most):
    weights = [1 + draw(4) for _ in range(takers)]
    chosen = [offers[draw(len(offers))] for _ in range(takers)]
    size = chosen[0][0]
    costs = random_costs(draw, size, sum(weights) + draw(3), least, most)
    return costs, tuple(zip(chosen, weights))


def some_heavy_games(is_wanted=lambda offer: True):
    draw = random_numbers(6)
    games = []
    for takers in (1, 2, 2, 2, 3, 3, 4):
        for size in (1, 2, 3, 4):
            offers = [offer for offer in all_offers(size) if len(offer[1]) < 5 and is_wanted(offer)]
            games.append(random_heavy(draw, offers, takers, -3, 3))
            games.append(random_heavy(draw, offers, takers, 0, 9))
    return games


def states(games):
    return [(game, choice) for game in games for choice in product(*[taker[0][1] for taker in game[1]])]


class MakeHeavy(unittest.TestCase):
    def assert_raises_with(self, error, taker, costs, takers):
        for row in (list(takers), tuple(takers)):
            with self.assertRaises(error) as caught:
                make_heavy(costs, row)
            self.assertEqual(caught.exception.taker, taker)

    def test_lists_and_tuples(self):
        costs = ((1, 2, 3), (1, 2, 3))
        takers = [(ONE, 1), (ONE, 2)]
        game = make_heavy(costs, takers)
        self.assertEqual(game, (costs, ((ONE, 1), (ONE, 2))))
        self.assertIs(type(game), tuple)
        self.assertIs(type(game[1]), tuple)
        self.assertEqual(takers, [(ONE, 1), (ONE, 2)])
        self.assertEqual(make_heavy(costs, tuple(takers)), game)

    def test_no_takers_and_no_rows(self):
        self.assertEqual(make_heavy(((1,), (2,)), []), (((1,), (2,)), ()))
        self.assertEqual(make_heavy(((), ()), ()), (((), ()), ()))
        self.assertEqual(make_heavy((), ()), ((), ()))
        self.assertEqual(make_heavy((), [((0, ((),)), 50)]), ((), (((0, ((),)), 50),)))

    def test_unlike_sizes(self):
        self.assert_raises_with(UnlikeSizes, 0, ((1, 2),), [(ONE, 1)])
        self.assert_raises_with(UnlikeSizes, 0, ((1, 2),) * 3, [(ONE, 1)])
        self.assert_raises_with(UnlikeSizes, 1, ((1, 2),) * 2, [(ONE, 1), (choose(3, 1), 1)])
        self.assert_raises_with(UnlikeSizes, 0, (), [(ONE, 1)])

    def test_bad_weights(self):
        self.assert_raises_with(BadWeight, 0, ((1, 2),) * 2, [(ONE, 0)])
        self.assert_raises_with(BadWeight, 1, ((1, 2),) * 2, [(ONE, 1), (ONE, -5)])
        self.assert_raises_with(BadWeight, 0, (), [((0, ((),)), 0)])

    def test_small_rooms(self):
        costs = ((1, 2, 3), (1, 2, 3))
        self.assertEqual(len(make_heavy(costs, [(ONE, 2), (ONE, 1)])[1]), 2)
        self.assert_raises_with(SmallRoom, 2, costs, [(ONE, 2), (ONE, 2)])
        self.assert_raises_with(SmallRoom, 1, costs, [(ONE, 4)])
        self.assert_raises_with(SmallRoom, 1, costs, [(ONE, 10 ** 50)])
        self.assert_raises_with(SmallRoom, 4, costs, [(ONE, 1)] * 4)
        self.assert_raises_with(SmallRoom, 1, ((), ()), [(ONE, 1)])
        self.assert_raises_with(SmallRoom, 2, ((1, 2),), [(choose(1, 1), 1), (choose(1, 0), 2)])
        self.assertEqual(len(make_heavy(((1, 2, 3),), [(choose(1, 1), 1), (choose(1, 0), 2)])[1]), 2)

    def test_which_of_several_errors(self):
        costs = ((1,), (1,))
        self.assert_raises_with(UnlikeSizes, 0, costs, [(choose(3, 1), 0)])
        self.assert_raises_with(BadWeight, 0, costs, [(ONE, 0), (choose(3, 1), 1)])
        self.assert_raises_with(UnlikeSizes, 1, costs, [(ONE, 1), (choose(3, 1), 1), (ONE, 0)])
        self.assert_raises_with(BadWeight, 2, costs, [(ONE, 5), (ONE, 1), (ONE, 0)])
        self.assert_raises_with(UnlikeSizes, 2, costs, [(ONE, 5), (ONE, 1), (WAYS, 1)])


class NoTakers(unittest.TestCase):
    def test_all(self):
        game = make_heavy(((1, 2), (3, 4)), ())
        self.assertEqual(heavy_loads(game, ()), (0, 0))
        self.assertEqual(heavy_loads(((), ()), ()), ())
        self.assertIsNone(heavy_first_gain(game, ()))
        self.assertIs(heavy_is_rest(game, ()), True)
        self.assertEqual(heavy_choices(game), ((),))
        self.assertEqual(heavy_rests(game), ((),))
        self.assertEqual(cost_row(game, ()), ())
        self.assertEqual(heavy_settle(game, ()), ((), ()))


class Weights(unittest.TestCase):
    GAME = (((1, 2, 4, 8, 16), (3, 3, 5, 5, 9)), ((ONE, 2), (ONE, 3)))

    def test_loads_and_pays(self):
        self.assertEqual(heavy_loads(self.GAME, ((0,), (0,))), (5, 0))
        self.assertEqual(heavy_loads(self.GAME, ((0,), (1,))), (2, 3))
        self.assertEqual(heavy_pay(self.GAME, ((0,), (0,)), 0), 16)
        self.assertEqual(heavy_pay(self.GAME, ((0,), (1,)), 0), 2)
        self.assertEqual(heavy_pay(self.GAME, ((0,), (1,)), 1), 5)

    def test_prices(self):
        self.assertEqual(heavy_prices(self.GAME, ((0,), (0,)), 0), (16, 3))
        self.assertEqual(heavy_prices(self.GAME, ((0,), (0,)), 1), (16, 5))
        self.assertEqual(heavy_prices(self.GAME, ((0,), (1,)), 0), (2, 9))
        self.assertEqual(heavy_prices(self.GAME, ((0,), (1,)), 1), (16, 5))

    def test_gains(self):
        self.assertEqual(heavy_best_lot(self.GAME, ((0,), (0,)), 1), (1,))
        self.assertEqual(heavy_gain(self.GAME, ((0,), (0,)), 0), 13)
        self.assertEqual(heavy_gain(self.GAME, ((0,), (0,)), 1), 11)
        self.assertEqual(heavy_first_gain(self.GAME, ((0,), (0,))), (0, (1,)))
        self.assertEqual(heavy_rests(self.GAME), (((0,), (1,)), ((1,), (0,))))

    def test_cost_rows(self):
        self.assertEqual(cost_row(self.GAME, ((0,), (1,))), (5, 2))
        self.assertEqual(cost_row(self.GAME, ((1,), (0,))), (4, 3))
        self.assertEqual(cost_row(self.GAME, ((0,), (0,))), (16, 16))
        game = make_heavy(((-5, 7), (2, 2), (-1, 0)), [(choose(3, 2), 1), (choose(3, 1), 1)])
        self.assertEqual(cost_row(game, ((0, 1), (0,))), (7, 7, 2))
        self.assertEqual(cost_row(game, ((0, 1), (2,))), (2, -1, -5))

    def test_equal_costs(self):
        game = make_heavy(((4,) * 6, (4,) * 6, (4,) * 6), [(choose(3, 1), 2), (choose(3, 1), 3)])
        self.assertEqual(heavy_best_lot(game, ((2,), (1,)), 1), (0,))
        self.assertEqual(heavy_gain(game, ((2,), (1,)), 1), 0)
        self.assertEqual(len(heavy_rests(game)), 9)
        self.assertEqual(heavy_settle(game, ((2,), (1,))), (((2,), (1,)), ()))

    def test_great_costs(self):
        great = 10 ** 4000
        game = make_heavy(((0, great), (great, great + 1)), [(ONE, 2)])
        self.assertEqual(heavy_pay(game, ((0,),), 0), great)
        self.assertEqual(heavy_gain(game, ((1,),), 0), 1)
        self.assertEqual(heavy_settle(game, ((1,),)), (((0,),), ((0, 1, 0),)))


class ByWords(unittest.TestCase):
    def test_loads_and_pays(self):
        for game, choice in states(some_heavy_games()):
            self.assertEqual(
                heavy_loads(game, choice),
                tuple(heavy_load_by_words(game, choice, thing) for thing in range(len(game[0]))),
            )
            for taker in range(len(game[1])):
                self.assertEqual(heavy_pay(game, choice, taker), heavy_pay_by_words(game, choice, taker))

    def test_prices_and_gains(self):
        later = 0
        for game, choice in states(some_heavy_games()):
            wanted = None
            for taker, (offer, weight) in enumerate(game[1]):
                prices = heavy_prices(game, choice, taker)
                self.assertEqual(prices, tuple(
                    row[heavy_load_by_words(game, choice, thing) + (0 if thing in choice[taker] else weight) - 1]
                    for thing, row in enumerate(game[0])
                ))
                self.assertIs(type(prices), tuple)
                pays = heavy_pays_by_lot(game, choice, taker)
                self.assertEqual([sum(prices[thing] for thing in lot) for lot in offer[1]], pays)
                best = offer[1][pays.index(min(pays))]
                own = heavy_pay_by_words(game, choice, taker)
                self.assertEqual(heavy_best_lot(game, choice, taker), best)
                self.assertEqual(heavy_gain(game, choice, taker), own - min(pays))
                if own > min(pays) and wanted is None:
                    wanted = (taker, best)
            self.assertEqual(heavy_first_gain(game, choice), wanted)
            self.assertIs(heavy_is_rest(game, choice), wanted is None)
            later += wanted is not None and wanted[0] > 0
        self.assertGreater(later, 0)

    def test_choices_and_rests(self):
        for game in some_heavy_games():
            wanted = tuple(product(*[taker[0][1] for taker in game[1]]))
            self.assertEqual(heavy_choices(game), wanted)
            self.assertEqual(
                heavy_rests(game), tuple(choice for choice in wanted if is_heavy_rest_by_words(game, choice)),
            )

    def test_cost_rows_become_less(self):
        falls = 0
        for game, choice in states(some_heavy_games()):
            row = cost_row(game, choice)
            self.assertEqual(row, cost_row_by_words(game, choice))
            self.assertIs(type(row), tuple)
            for taker, (offer, _) in enumerate(game[1]):
                prices = heavy_prices(game, choice, taker)
                for out, into in exchanges_by_words(offer, choice[taker]):
                    if prices[into] < prices[out]:
                        changed = changed_choice(choice, taker, swapped(choice[taker], out, into))
                        self.assertLess(cost_row(game, changed), row)
                        falls += 1
        self.assertGreater(falls, 50)


class HeavySettle(unittest.TestCase):
    def assert_settles(self, game, choice):
        found = heavy_settle(game, choice)
        self.assertIs(type(found), tuple)
        rest, moves = found
        self.assertIs(type(rest), tuple)
        self.assertIs(type(moves), tuple)
        now = choice
        for move in moves:
            self.assertIs(type(move), tuple)
            taker, out, into = move
            self.assertIn((out, into), exchanges_by_words(game[1][taker][0], now[taker]))
            prices = heavy_prices(game, now, taker)
            self.assertLess(prices[into], prices[out])
            now = changed_choice(now, taker, swapped(now[taker], out, into))
        self.assertEqual(now, rest)
        self.assertTrue(is_heavy_rest_by_words(game, rest))
        return len(moves)

    def test_by_words(self):
        moves = [self.assert_settles(game, choice) for game, choice in states(some_heavy_games(is_smooth_by_words))]
        self.assertGreater(max(moves), 2)
        self.assertIn(0, moves)

    def test_greater_offers(self):
        draw = random_numbers(9)
        offers = [
            trees(4, ((0, 1), (1, 2), (2, 3), (3, 0), (0, 2), (1, 3))), choose(6, 2), parts(((3, 2), (3, 1))),
        ]
        for _ in range(4):
            game = random_heavy(draw, offers, 3, 0, 99)
            for choice in heavy_choices(game)[::37]:
                self.assert_settles(game, choice)

    def test_first_rough_taker(self):
        costs = ((1,) * 9,) * 3
        smooth, rough = (choose(3, 1), 2), (WAYS, 1)
        for takers, first in (([rough], 0), ([smooth, rough], 1), ([smooth, rough, rough], 1), ([rough, smooth], 0)):
            game = make_heavy(costs, takers)
            with self.assertRaises(NotSmooth) as caught:
                heavy_settle(game, heavy_choices(game)[0])
            self.assertEqual(caught.exception.taker, first)


if __name__ == "__main__":
    unittest.main()

import unittest

from takersrest.alike import tolled
from takersrest.builders import choose, parts, renamed, trees
from takersrest.costs import straight_costs
from takersrest.errors import NotSmooth, UnlikeCosts
from takersrest.games import is_rest, make_game
from takersrest.posted import best_choice, better_choice, judge_posted, posted_prices
from tests.helpers import (
    choices_of, crowd_sum_by_words, fits_by_words, pay_by_words, random_costs, random_numbers, smooth_by_size,
)

WAYS = (3, ((0, 2), (1,)))


def alike(offers, costs):
    return make_game([(offer, costs) for offer in offers])


def some_alike_games():
    """Games of one to five takers with smooth offers, with few choices and rooms that are greater now and then."""
    draw = random_numbers(41)
    smooth = smooth_by_size()
    games = []
    for takers, most_lots in ((1, 9), (2, 9), (2, 9), (3, 6), (4, 3), (5, 2)):
        for size in (1, 2, 3, 4):
            offers = [offer for offer in smooth[size] if len(offer[1]) <= most_lots]
            for least, most in ((-4, 4), (0, 20), (0, 1), (3, 3)):
                chosen = [offers[draw(len(offers))] for _ in range(takers)]
                games.append(alike(chosen, random_costs(draw, size, takers + draw(3), least, most)))
    return games


def some_greater_games():
    """Games in which chains of several exchanges are needed, again with few enough choices to try all."""
    draw = random_numbers(42)
    pairs = [(6, ((at,), (at + 1,))) for at in range(5)]
    games = [alike(pairs[:takers], random_costs(draw, 6, takers, -9, 9)) for takers in (3, 4, 5) for _ in range(6)]
    square = trees(4, ((0, 1), (1, 2), (2, 3), (3, 0), (0, 2)))
    twos = parts(((2, 1), (2, 1), (1, 0)))
    for _ in range(12):
        names = sorted(range(5), key=lambda _: draw(1000))
        offers = [choose(5, 2), square, twos, renamed(choose(3, 2), tuple(names[:3]), 5)]
        chosen = [offers[draw(4)] for _ in range(3)]
        games.append(alike(chosen, random_costs(draw, 5, 3, -20, 20)))
    return games


class Choices(unittest.TestCase):
    def assert_choice(self, game, choice):
        self.assertIs(type(choice), tuple)
        self.assertEqual(len(choice), len(game))
        for (offer, _), lot in zip(game, choice):
            self.assertIn(lot, offer[1])

    def assert_found(self, game):
        """The least crowd sum is told, and from each choice lesser ones lead there."""
        sums = {choice: crowd_sum_by_words(game, choice) for choice in choices_of(game)}
        least = min(sums.values())
        self.assertEqual(sums[best_choice(game)], least)
        for choice, total in sums.items():
            better = better_choice(game, choice)
            if total == least:
                self.assertIsNone(better)
            else:
                self.assertLess(sums[better], total)

    def test_one_taker(self):
        game = alike([choose(3, 1)], ((3,), (1,), (2,)))
        self.assertEqual(best_choice(game), ((1,),))
        self.assertIsNone(better_choice(game, ((1,),)))
        self.assertIn(better_choice(game, ((0,),)), (((1,),), ((2,),)))

    def test_a_choice_at_rest_may_have_a_greater_crowd_sum(self):
        game = alike([(3, ((0,), (1,))), (3, ((1,), (2,)))], ((5, 9), (1, 9), (2, 9)))
        choice = ((0,), (1,))
        self.assertIs(is_rest(game, choice), True)
        self.assertEqual(better_choice(game, choice), ((1,), (2,)))
        self.assertEqual(best_choice(game), ((1,), (2,)))

    def test_a_chain_of_four(self):
        offers = [(5, ((at,), (at + 1,))) for at in range(4)]
        game = alike(offers, ((5, 9, 9, 9), (3, 9, 9, 9), (3, 9, 9, 9), (3, 9, 9, 9), (4, 9, 9, 9)))
        self.assertEqual(better_choice(game, ((0,), (1,), (2,), (3,))), ((1,), (2,), (3,), (4,)))

    def test_size_0(self):
        for takers in (1, 2, 6):
            game = alike([(0, ((),))] * takers, ())
            self.assertEqual(best_choice(game), ((),) * takers)
            self.assertIsNone(better_choice(game, ((),) * takers))
            self.assertEqual(posted_prices(game, ((),) * takers), ())
            self.assertIs(judge_posted(game, ((),) * takers, ()), True)

    def test_by_words(self):
        for game in some_alike_games() + some_greater_games():
            self.assert_choice(game, best_choice(game))
            self.assert_found(game)

    def test_asked_again_and_again_it_ends(self):
        for game in some_greater_games():
            choice = max(choices_of(game), key=lambda choice: crowd_sum_by_words(game, choice))
            sums = []
            while choice is not None:
                self.assert_choice(game, choice)
                sums.append(crowd_sum_by_words(game, choice))
                choice = better_choice(game, choice)
            self.assertEqual(sums, sorted(sums, reverse=True))
            self.assertEqual(sums[-1], crowd_sum_by_words(game, best_choice(game)))

    def test_equal_costs(self):
        game = alike([choose(4, 2)] * 3, ((7, 7, 7),) * 4)
        for choice in choices_of(game):
            self.assertIsNone(better_choice(game, choice))

    def test_great_costs(self):
        great = 10 ** 4000
        game = alike([choose(2, 1)] * 2, ((great, great + 2), (-great, great + 1)))
        self.assertIn(best_choice(game), (((0,), (1,)), ((1,), (0,))))
        self.assertIn(better_choice(game, ((1,), (1,))), (((0,), (1,)), ((1,), (0,))))
        self.assertEqual(posted_prices(game, ((0,), (1,)))[0], great)

    def test_six_takers_and_twelve_things(self):
        draw = random_numbers(43)
        threes = [(12, ((at,), (at + 1,), (at + 3,))) for at in (0, 2, 4, 5, 7, 8)]
        self.assert_found(alike(threes, random_costs(draw, 12, 40, -50, 50)))
        elevens = choose(12, 11)
        self.assert_found(alike([elevens] * 3, random_costs(draw, 12, 3, -50, 50)))

    def test_tolls_lead_to_the_least_total(self):
        draw = random_numbers(44)
        for _ in range(10):
            costs = straight_costs(tuple((draw(6), draw(6)) for _ in range(4)), 3)
            offers = [choose(4, 1), choose(4, 2), parts(((2, 1), (2, 1)))]
            found = best_choice(alike(offers, tolled(costs)))
            game = alike(offers, costs)
            totals = {choice: sum(pay_by_words(game, choice, at) for at in range(3)) for choice in choices_of(game)}
            self.assertEqual(totals[found], min(totals.values()))


class Prices(unittest.TestCase):
    def assert_prices(self, game):
        """All choices tried: there are prices exactly at the least crowd sum, and they keep the words."""
        sums = {choice: crowd_sum_by_words(game, choice) for choice in choices_of(game)}
        for choice, total in sums.items():
            prices = posted_prices(game, choice)
            if total > min(sums.values()):
                self.assertIsNone(prices)
            else:
                self.assertIs(type(prices), tuple)
                self.assertTrue(all(type(amount) is int for amount in prices))
                self.assertEqual(len(prices), len(game[0][1]))
                self.assertTrue(fits_by_words(game, choice, prices))
                self.assertIs(judge_posted(game, choice, prices), True)

    def test_by_words(self):
        for game in some_alike_games() + some_greater_games():
            self.assert_prices(game)

    def test_loads_of_0_and_of_all_takers(self):
        # All have 0 and 1, nobody has 2 and 3.
        game = alike([(4, ((0, 1), (0, 2), (0, 3)))] * 3, ((1, 2, 3, 90), (1, 2, 3, 4), (8, 8, 8, 8), (9, 9, 9, 9)))
        choice = ((0, 1),) * 3
        self.assertTrue(fits_by_words(game, choice, posted_prices(game, choice)))
        self.assertIs(judge_posted(game, choice, (3, 3, 8, 9)), True)
        # At the load of all takers nothing bounds a price from above but the lots.
        self.assertIs(judge_posted(game, choice, (999, 8, 8, 9)), True)
        self.assertIs(judge_posted(game, choice, (2, 3, 8, 9)), False)
        self.assertIs(judge_posted(game, choice, (3, 9, 8, 9)), False)
        # At the load 0 nothing bounds a price from below but the lots.
        self.assertIs(judge_posted(game, choice, (3, 3, 3, 3)), True)
        self.assertIs(judge_posted(game, choice, (3, 3, 2, 3)), False)
        self.assertIs(judge_posted(game, choice, (3, 3, 9, 9)), False)
        full = alike([(2, ((0, 1),))] * 2, ((-1, 2), (-7, -7)))
        self.assertIs(judge_posted(full, ((0, 1),) * 2, (2, -7)), True)
        self.assertIs(judge_posted(full, ((0, 1),) * 2, (10 ** 50, 10 ** 50)), True)
        self.assertIs(judge_posted(full, ((0, 1),) * 2, (1, 0)), False)
        none = alike([(2, ((),))] * 2, ((-1, 2), (-7, -7)))
        self.assertIs(judge_posted(none, ((), ()), (-1, -7)), True)
        self.assertIs(judge_posted(none, ((), ()), (-10 ** 50, -10 ** 50)), True)
        self.assertIs(judge_posted(none, ((), ()), (0, -7)), False)
        self.assertIs(judge_posted(none, ((), ()), (-1, -6)), False)

    def test_both_bounds_and_one_beyond(self):
        game = alike([choose(2, 1)] * 2, ((3, 6), (4, 5)))
        choice = ((0,), (1,))
        for first in range(1, 9):
            for second in range(1, 9):
                wanted = first == second and 4 <= first <= 5
                self.assertIs(judge_posted(game, choice, (first, second)), wanted)
        one = alike([(1, ((0,),)), (1, ((),))], ((3, 6),))
        for amount in range(1, 9):
            self.assertIs(judge_posted(one, ((0,), ()), (amount,)), 3 <= amount <= 6)

    def test_a_lot_that_is_not_of_least_price(self):
        game = alike([choose(2, 1), choose(2, 1)], ((3, 9), (3, 9)))
        self.assertIs(judge_posted(game, ((0,), (1,)), (5, 5)), True)
        self.assertIs(judge_posted(game, ((0,), (1,)), (5, 6)), False)
        self.assertIs(judge_posted(game, ((0,), (1,)), (6, 5)), False)

    def test_judging_by_words(self):
        draw = random_numbers(45)
        verdicts = []
        for game in some_alike_games():
            for choice in choices_of(game)[:20]:
                fitting = posted_prices(game, choice)
                for _ in range(4):
                    prices = tuple(draw(9) - 3 for _ in game[0][1])
                    if fitting is not None:
                        prices = tuple(amount + draw(3) - 1 if draw(4) == 0 else amount for amount in fitting)
                    verdicts.append(judge_posted(game, choice, prices))
                    self.assertIs(verdicts[-1], fits_by_words(game, choice, prices))
        self.assertGreater(verdicts.count(True), 100)
        self.assertGreater(verdicts.count(False), 100)


class Errors(unittest.TestCase):
    def calls(self, game):
        choice = tuple(offer[1][0] for offer, _ in game)
        prices = (1,) * game[0][0][0]
        return [
            lambda: better_choice(game, choice), lambda: best_choice(game), lambda: posted_prices(game, choice),
            lambda: judge_posted(game, choice, prices),
        ]

    def test_unlike_costs(self):
        costs = ((1, 2, 3), (1, 2, 3), (1, 2, 3))
        other = ((1, 2, 3), (1, 2, 3), (1, 2, 4))
        smooth = choose(3, 1)
        for game in (
            make_game([(smooth, costs), (smooth, other)]),
            make_game([(smooth, costs), (smooth, costs), (smooth, other)]),
            make_game([(WAYS, costs), (smooth, other)]),
            make_game([(smooth, costs), (WAYS, other)]),
        ):
            for call in self.calls(game):
                with self.assertRaises(UnlikeCosts):
                    call()

    def test_rough_offers(self):
        costs = ((1, 2, 3), (1, 2, 3), (1, 2, 3))
        smooth = choose(3, 1)
        for offers, first in (
            ([WAYS], 0), ([WAYS, smooth], 0), ([smooth, WAYS], 1), ([smooth, WAYS, WAYS], 1), ([smooth] * 2 + [WAYS], 2),
        ):
            for call in self.calls(alike(offers, costs)):
                with self.assertRaises(NotSmooth) as caught:
                    call()
                self.assertEqual(caught.exception.taker, first)


if __name__ == "__main__":
    unittest.main()

import unittest

from takersrest.alike import are_alike, crowd_sum, dear_game, least_total, settle, tolled, total
from takersrest.builders import choose
from takersrest.costs import make_costs, straight_costs
from takersrest.errors import FallingCosts, UnlikeCosts
from takersrest.games import is_rest, make_game, rests
from tests.helpers import (
    all_offers, changed_choice, choices_of, crowd_sum_by_words, is_rest_by_words, pay_by_words, pays_by_lot,
    random_costs, random_game, random_numbers,
)

WAYS = (3, ((0, 2), (1,)))
ONE = choose(2, 1)
UNLIKE = ((ONE, ((1, 2), (1, 2))), (ONE, ((1, 2), (1, 3))))


def total_by_words(game, choice):
    return sum(pay_by_words(game, choice, taker) for taker in range(len(game)))


def settled_by_words(game, choice):
    steps = []
    while True:
        for taker in range(len(game)):
            pays = pays_by_lot(game, choice, taker)
            if min(pays) < pay_by_words(game, choice, taker):
                steps.append((taker, game[taker][0][1][pays.index(min(pays))]))
                choice = changed_choice(choice, *steps[-1])
                break
        else:
            return choice, tuple(steps)


def some_alike_games():
    draw = random_numbers(11)
    games = []
    for takers in (1, 2, 2, 3, 4):
        for size in (1, 2, 3, 4):
            offers = [offer for offer in all_offers(size) if len(offer[1]) < 5]
            for least, most in ((-4, 4), (0, 20)):
                costs = random_costs(draw, size, takers + draw(2), least, most)
                games.append(tuple((offers[draw(len(offers))], costs) for _ in range(takers)))
    return games


class AreAlike(unittest.TestCase):
    def test_no_takers_and_one(self):
        self.assertIs(are_alike(()), True)
        self.assertIs(are_alike(UNLIKE[:1]), True)

    def test_offers_may_differ(self):
        costs = ((1, 2), (3, 4))
        self.assertIs(are_alike(((ONE, costs), ((2, ((0, 1),)), ((1, 2), (3, 4))))), True)

    def test_unlike(self):
        self.assertIs(are_alike(UNLIKE), False)
        costs = ((1, 2, 3), (3, 4, 5))
        self.assertIs(are_alike(((ONE, costs), (ONE, costs), (ONE, ((1, 2, 3), (3, 4, 6))))), False)
        self.assertIs(are_alike(((ONE, ((1, 2), (1, 2))), (ONE, ((1, 2, 3), (1, 2, 3))))), False)

    def test_size_0(self):
        self.assertIs(are_alike((((0, ((),)), ()), ((0, ((),)), ()))), True)


class CrowdSum(unittest.TestCase):
    def test_example(self):
        costs = ((1, 4, 9), (3, 3, 3), (0, 1, 7))
        game = make_game([(WAYS, costs)] * 3)
        self.assertEqual(crowd_sum(game, ((0, 2), (0, 2), (1,))), 1 + 4 + 0 + 1 + 3)
        self.assertEqual(crowd_sum(game, ((0, 2), (0, 2), (0, 2))), 14 + 8)

    def test_no_takers(self):
        self.assertEqual(crowd_sum((), ()), 0)

    def test_unlike(self):
        with self.assertRaises(UnlikeCosts):
            crowd_sum(UNLIKE, ((0,), (0,)))

    def test_by_words_and_its_changes(self):
        for game in some_alike_games():
            for choice in choices_of(game):
                crowd = crowd_sum(game, choice)
                self.assertEqual(crowd, crowd_sum_by_words(game, choice))
                for taker in range(len(game)):
                    own = pay_by_words(game, choice, taker)
                    for lot, less in zip(game[taker][0][1], pays_by_lot(game, choice, taker)):
                        self.assertEqual(crowd_sum(game, changed_choice(choice, taker, lot)) - crowd, less - own)


class Settle(unittest.TestCase):
    def test_no_takers(self):
        self.assertEqual(settle((), ()), ((), ()))

    def test_at_rest_already(self):
        game = make_game([(ONE, ((1, 5), (1, 5)))] * 2)
        self.assertEqual(settle(game, ((0,), (1,))), (((0,), (1,)), ()))

    def test_the_first_gains_in_order(self):
        # The first taker leaves 0 before the second one can, though both would.
        game = make_game([(ONE, ((1, 5), (1, 5)))] * 2)
        self.assertEqual(settle(game, ((0,), (0,))), (((1,), (0,)), ((0, (1,)),)))
        game = make_game([(choose(3, 1), ((9, 9, 9), (1, 2, 9), (1, 1, 9)))] * 3)
        self.assertEqual(
            settle(game, ((0,), (0,), (0,))), (((1,), (2,), (2,)), ((0, (1,)), (1, (2,)), (2, (2,)))),
        )

    def test_unlike(self):
        with self.assertRaises(UnlikeCosts):
            settle(UNLIKE, ((0,), (1,)))

    def test_by_words(self):
        lengths = []
        for game in some_alike_games():
            for choice in choices_of(game)[::3]:
                found = settle(game, choice)
                self.assertEqual(found, settled_by_words(game, choice))
                self.assertIs(type(found), tuple)
                self.assertIs(type(found[0]), tuple)
                self.assertIs(type(found[1]), tuple)
                self.assertTrue(all(type(step) is tuple for step in found[1]))
                self.assertTrue(is_rest_by_words(game, found[0]))
                lengths.append(len(found[1]))
        self.assertGreater(max(lengths), 2)


class Tolled(unittest.TestCase):
    def test_example(self):
        self.assertEqual(tolled(((1, 2, 3), (0, 0, 1), (5, 5, 5))), ((1, 3, 5), (0, 0, 3), (5, 5, 5)))

    def test_room_0_room_1_and_no_rows(self):
        self.assertEqual(tolled(((), ())), ((), ()))
        self.assertEqual(tolled(((7,), (-7,))), ((7,), (-7,)))
        self.assertEqual(tolled(()), ())

    def test_below_0_and_great(self):
        self.assertEqual(tolled(((-3, -2), (-10 ** 99, 10 ** 99))), ((-3, -1), (-10 ** 99, 3 * 10 ** 99)))

    def test_falling(self):
        # 1, 4, 4 becomes 1, 7, 4.
        for costs, thing in (
            (((1, 4, 4),), 0),
            (((1, 2, 3), (1, 4, 4), (0, 9, 9)), 1),
            (((1, 2, 3), (1, 1, 1), (-9, 0, 0)), 2),
        ):
            with self.assertRaises(FallingCosts) as caught:
                tolled(costs)
            self.assertEqual(caught.exception.thing, thing)

    def test_straight(self):
        self.assertEqual(tolled(straight_costs(((3, 4), (0, 2)), 40)), straight_costs(((6, 1), (0, 2)), 40))

    def test_by_words(self):
        draw = random_numbers(12)
        falling = 0
        for _ in range(200):
            costs = random_costs(draw, 3, 1 + draw(4), -5, 9)
            wanted = [
                [k * row[k - 1] - ((k - 1) * row[k - 2] if k > 1 else 0) for k in range(1, len(row) + 1)]
                for row in costs
            ]
            wrong = [thing for thing, row in enumerate(wanted) if row != sorted(row)]
            if wrong:
                falling += 1
                with self.assertRaises(FallingCosts) as caught:
                    tolled(costs)
                self.assertEqual(caught.exception.thing, wrong[0])
            else:
                found = tolled(costs)
                self.assertEqual(found, tuple(tuple(row) for row in wanted))
                self.assertIs(type(found), tuple)
        self.assertTrue(20 < falling < 180)

    def test_crowd_sum_with_tolls_is_the_total(self):
        costs = make_costs(((1, 2, 4), (0, 3, 6), (-2, -1, 3)), 3)
        offers = [WAYS, choose(3, 2), choose(3, 1)]
        game = make_game([(offer, costs) for offer in offers])
        with_tolls = make_game([(offer, tolled(costs)) for offer in offers])
        for choice in choices_of(game):
            self.assertEqual(crowd_sum(with_tolls, choice), total(game, choice))


class Total(unittest.TestCase):
    def test_no_takers(self):
        self.assertEqual(total((), ()), 0)
        self.assertEqual(least_total(()), 0)

    def test_unlike_costs_have_a_total_too(self):
        self.assertEqual(total(UNLIKE, ((1,), (1,))), 5)
        self.assertEqual(total(UNLIKE, ((0,), (1,))), 2)
        self.assertEqual(least_total(UNLIKE), 2)

    def test_by_words(self):
        draw = random_numbers(13)
        offers = [offer for offer in all_offers(3) if len(offer[1]) < 5]
        games = some_alike_games() + [random_game(draw, offers, takers, takers, -5, 5) for takers in (1, 2, 3, 4)]
        for game in games:
            totals = [total(game, choice) for choice in choices_of(game)]
            self.assertEqual(totals, [total_by_words(game, choice) for choice in choices_of(game)])
            self.assertEqual(least_total(game), min(totals))

    def test_straight_costs_at_rest(self):
        draw = random_numbers(14)
        for takers in (2, 3):
            for size in (2, 3):
                offers = [offer for offer in all_offers(size) if len(offer[1]) < 5]
                for _ in range(8):
                    costs = straight_costs(tuple((draw(5), draw(5)) for _ in range(size)), takers)
                    game = make_game([(offers[draw(len(offers))], costs) for _ in range(takers)])
                    for choice in rests(game):
                        self.assertLessEqual(2 * total(game, choice), 5 * least_total(game))


class DearGame(unittest.TestCase):
    def test_as_told(self):
        game = dear_game()
        costs = ((1, 2, 3),) * 6
        self.assertEqual(game, (
            ((6, ((0, 3), (1, 2, 4))), costs),
            ((6, ((0, 2, 5), (1, 4))), costs),
            ((6, ((0, 1, 3), (2, 5))), costs),
        ))

    def test_the_bound_is_reached(self):
        game = dear_game()
        self.assertEqual(make_game(game), game)
        self.assertIs(are_alike(game), True)
        dear = ((1, 2, 4), (0, 2, 5), (0, 1, 3))
        self.assertIs(is_rest(game, dear), True)
        self.assertEqual(total(game, dear), 15)
        self.assertEqual(least_total(game), 6)


if __name__ == "__main__":
    unittest.main()

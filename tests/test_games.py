import unittest
from itertools import product

from takersrest.builders import choose
from takersrest.errors import SmallRoom, UnlikeSizes
from takersrest.games import (
    best_lot, choices, first_gain, gain, is_rest, loads, make_game, own_prices, pay, rests, single_gain,
)
from tests.helpers import (
    all_offers, changed_choice, exchanges_by_words, is_rest_by_words, load_by_words, pay_by_words, pays_by_lot,
    random_game, random_numbers,
)

WAYS = (3, ((0, 2), (1,)))
EXAMPLE = ((WAYS, ((1, 4), (3, 3), (1, 1))), (WAYS, ((0, 9), (2, 5), (1, 1))))
ONE = choose(2, 1)


def some_games():
    """Games of one to four takers with offers of their own, room for more takers, and costs below 0 too."""
    draw = random_numbers(5)
    games = []
    for takers in (1, 1, 2, 2, 2, 3, 3, 4):
        for size in (1, 2, 3, 4):
            offers = [offer for offer in all_offers(size) if len(offer[1]) < 5]
            games.append(random_game(draw, offers, takers, takers + draw(3), -3, 3))
            games.append(random_game(draw, offers, takers, takers, 0, 1))
    return games


def some_states():
    return [(game, choice) for game in some_games() for choice in product(*[taker[0][1] for taker in game])]


class MakeGame(unittest.TestCase):
    def assert_raises_with(self, error, taker, takers):
        for row in (list(takers), tuple(takers)):
            with self.assertRaises(error) as caught:
                make_game(row)
            self.assertEqual(caught.exception.taker, taker)

    def test_lists_and_tuples(self):
        takers = [EXAMPLE[0], EXAMPLE[1]]
        game = make_game(takers)
        self.assertEqual(game, EXAMPLE)
        self.assertIs(type(game), tuple)
        self.assertEqual(make_game(EXAMPLE), EXAMPLE)
        self.assertEqual(takers, list(EXAMPLE))

    def test_no_takers(self):
        self.assertEqual(make_game([]), ())
        self.assertEqual(make_game(()), ())

    def test_greater_and_different_rooms(self):
        game = ((ONE, ((1, 1, 2), (0, 1, 5))), (ONE, ((1, 1), (0, 1))))
        self.assertEqual(make_game(game), game)

    def test_sizes_that_differ(self):
        good = (ONE, ((1, 1), (1, 1)))
        other = (choose(1, 1), ((1, 1),))
        self.assert_raises_with(UnlikeSizes, 1, [good, other])
        self.assert_raises_with(UnlikeSizes, 1, [other, good])
        self.assert_raises_with(UnlikeSizes, 1, [good, ((0, ((),)), ())])
        self.assert_raises_with(UnlikeSizes, 1, [((0, ((),)), ()), good])

    def test_a_row_more_or_fewer(self):
        self.assert_raises_with(UnlikeSizes, 0, [(ONE, ((1,),))])
        self.assert_raises_with(UnlikeSizes, 0, [(ONE, ((1,), (1,), (1,)))])
        self.assert_raises_with(UnlikeSizes, 0, [((0, ((),)), ((1,),))])
        self.assert_raises_with(UnlikeSizes, 1, [(ONE, ((1, 1), (1, 1))), (ONE, ())])

    def test_a_small_room(self):
        good = (ONE, ((1, 1), (1, 1)))
        small = (ONE, ((1,), (1,)))
        self.assertEqual(make_game([small]), (small,))
        self.assertEqual(make_game([good, good]), (good, good))
        self.assert_raises_with(SmallRoom, 1, [good, small])
        self.assert_raises_with(SmallRoom, 0, [small, good])
        self.assert_raises_with(SmallRoom, 0, [good, good, good])
        self.assert_raises_with(SmallRoom, 0, [(ONE, ((), ()))])
        self.assert_raises_with(SmallRoom, 0, [(choose(1, 1), ((5,),))] * 2)
        self.assertEqual(len(make_game([(choose(1, 1), ((5, 5),))] * 2)), 2)

    def test_size_0_has_no_small_room(self):
        nothing = ((0, ((),)), ())
        self.assertEqual(make_game([nothing, nothing, nothing]), (nothing, nothing, nothing))

    def test_which_of_two_errors(self):
        good = (ONE, ((1, 1, 1), (1, 1, 1)))
        self.assert_raises_with(UnlikeSizes, 0, [(ONE, ((1,),)), good])
        self.assert_raises_with(UnlikeSizes, 1, [good, (choose(1, 1), ((1,),))])
        self.assert_raises_with(SmallRoom, 0, [(ONE, ((1,), (1,))), (choose(1, 1), ((1, 1),))])
        self.assert_raises_with(UnlikeSizes, 1, [good, (choose(1, 1), ((1, 1),)), (ONE, ((1,), (1,)))])
        self.assert_raises_with(SmallRoom, 1, [good, (ONE, ((1,), (1,))), (choose(1, 1), ((1, 1),))])


class Example(unittest.TestCase):
    def test_as_the_document_tells_it(self):
        self.assertEqual(best_lot(EXAMPLE, ((0, 2), (0, 2)), 0), (1,))
        self.assertEqual(rests(EXAMPLE), (((0, 2), (1,)), ((1,), (0, 2))))

    def test_the_rest_of_it(self):
        both = ((0, 2), (0, 2))
        self.assertEqual(loads(EXAMPLE, both), (2, 0, 2))
        self.assertEqual(pay(EXAMPLE, both, 0), 5)
        self.assertEqual(pay(EXAMPLE, both, 1), 10)
        self.assertEqual(own_prices(EXAMPLE, both, 0), (4, 3, 1))
        self.assertEqual(own_prices(EXAMPLE, ((0, 2), (1,)), 1), (9, 2, 1))
        self.assertEqual(gain(EXAMPLE, both, 0), 2)
        self.assertEqual(gain(EXAMPLE, both, 1), 8)
        self.assertEqual(first_gain(EXAMPLE, both), (0, (1,)))
        self.assertIsNone(first_gain(EXAMPLE, ((0, 2), (1,))))
        self.assertIsNone(single_gain(EXAMPLE, both))


class NoTakers(unittest.TestCase):
    def test_all(self):
        self.assertEqual(loads((), ()), ())
        self.assertIsNone(first_gain((), ()))
        self.assertIsNone(single_gain((), ()))
        self.assertIs(is_rest((), ()), True)
        self.assertEqual(choices(()), ((),))
        self.assertEqual(rests(()), ((),))


class SizeZero(unittest.TestCase):
    def test_all(self):
        game = make_game([((0, ((),)), ())] * 2)
        self.assertEqual(choices(game), (((), ()),))
        self.assertEqual(rests(game), (((), ()),))
        self.assertEqual(loads(game, ((), ())), ())
        self.assertEqual(own_prices(game, ((), ()), 1), ())
        self.assertEqual(pay(game, ((), ()), 1), 0)


class Equal(unittest.TestCase):
    def test_first_best_lot(self):
        offer = choose(3, 1)
        game = ((offer, ((2,), (1,), (1,))),)
        self.assertEqual(best_lot(game, ((0,),), 0), (1,))
        self.assertEqual(first_gain(game, ((0,),)), (0, (1,)))
        self.assertEqual(single_gain(game, ((0,),)), (0, 0, 1))
        # In its own lot it pays just as much, so it does not gain by the first one.
        self.assertEqual(best_lot(game, ((2,),), 0), (1,))
        self.assertEqual(gain(game, ((2,),), 0), 0)
        self.assertIsNone(first_gain(game, ((2,),)))
        self.assertIs(is_rest(game, ((2,),)), True)
        self.assertEqual(rests(game), (((1,),), ((2,),)))

    def test_single_gain_is_the_best_one(self):
        offer = choose(4, 2)
        game = ((offer, ((4,), (9,), (3,), (1,))), (offer, ((4,), (9,), (3,), (1,))))
        alone = (game[0],)
        self.assertEqual(single_gain(alone, ((0, 1),)), (0, 1, 3))
        self.assertEqual(first_gain(alone, ((0, 1),)), (0, (2, 3)))
        self.assertIsNone(single_gain(alone, ((2, 3),)))


class ByWords(unittest.TestCase):
    def test_loads_and_pays(self):
        for game, choice in some_states():
            size = game[0][0][0]
            self.assertEqual(loads(game, choice), tuple(load_by_words(choice, thing) for thing in range(size)))
            for taker in range(len(game)):
                self.assertEqual(pay(game, choice, taker), pay_by_words(game, choice, taker))

    def test_prices(self):
        for game, choice in some_states():
            for taker, (offer, costs) in enumerate(game):
                prices = own_prices(game, choice, taker)
                self.assertIs(type(prices), tuple)
                self.assertEqual(prices, tuple(
                    costs[thing][load_by_words(choice, thing) - (thing in choice[taker])]
                    for thing in range(offer[0])
                ))
                self.assertEqual(
                    [sum(prices[thing] for thing in lot) for lot in offer[1]], pays_by_lot(game, choice, taker),
                )

    def test_best_lots_and_gains(self):
        gaining = 0
        for game, choice in some_states():
            wanted = None
            for taker, (offer, _) in enumerate(game):
                pays = pays_by_lot(game, choice, taker)
                best = offer[1][pays.index(min(pays))]
                own = pay_by_words(game, choice, taker)
                self.assertEqual(best_lot(game, choice, taker), best)
                self.assertEqual(gain(game, choice, taker), own - min(pays))
                if own > min(pays) and wanted is None:
                    wanted = (taker, best)
            self.assertEqual(first_gain(game, choice), wanted)
            self.assertIs(is_rest(game, choice), wanted is None)
            gaining += wanted is not None and wanted[0] > 0
        self.assertGreater(gaining, 0)

    def test_single_gains(self):
        found = []
        for game, choice in some_states():
            wanted = None
            for taker, (offer, _) in enumerate(game):
                lot = choice[taker]
                own = pay_by_words(game, choice, taker)
                better = []
                for out, into in exchanges_by_words(offer, lot):
                    other = tuple(sorted(set(lot) - {out} | {into}))
                    less = pay_by_words(game, changed_choice(choice, taker, other), taker) - own
                    if less < 0:
                        better.append((less, out, into))
                if better and wanted is None:
                    wanted = (taker,) + min(better)[1:]
            self.assertEqual(single_gain(game, choice), wanted)
            found.append(wanted)
        self.assertIn(None, found)
        self.assertTrue(any(wanted is not None and wanted[0] > 0 for wanted in found))

    def test_choices_and_rests(self):
        for game in some_games():
            wanted = tuple(product(*[taker[0][1] for taker in game]))
            self.assertEqual(choices(game), wanted)
            self.assertEqual(choices(game), tuple(sorted(wanted)))
            self.assertEqual(rests(game), tuple(choice for choice in wanted if is_rest_by_words(game, choice)))


class Great(unittest.TestCase):
    def test_great_costs(self):
        great = 10 ** 5000
        game = ((ONE, ((-great, great), (0, 1))), (ONE, ((great, great + 1), (great, great + 2))))
        self.assertEqual(pay(game, ((0,), (0,)), 0), great)
        self.assertEqual(gain(game, ((0,), (0,)), 0), great)
        self.assertEqual(gain(game, ((1,), (1,)), 1), 2)
        self.assertEqual(rests(game), (((0,), (1,)), ((1,), (0,))))

    def test_greatest_number_of_choices(self):
        costs = tuple(tuple(range(thing, thing + 40)) for thing in range(12))
        offer = choose(12, 1)
        game = make_game([(offer, costs), (offer, costs), (offer, costs), ((12, ((0, 1, 2),)), costs)])
        self.assertEqual(len(choices(game)), 1728)
        for choice in rests(game):
            self.assertTrue(is_rest_by_words(game, choice))


if __name__ == "__main__":
    unittest.main()

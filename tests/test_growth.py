import unittest
from itertools import product

from takersrest.builders import choose, parts, renamed, trees
from takersrest.errors import BadMove, NotSmooth
from takersrest.games import make_game
from takersrest.growth import grow, replay
from tests.helpers import (
    is_free_by_words, is_rest_by_words, is_smooth_by_words, random_game, random_numbers, rank_by_words,
    some_smooth_offers, swapped,
)

WAYS = (3, ((0, 2), (1,)))


def count(sets, thing):
    return len([things for things in sets if thing in things])


def is_allowed(game, sets, move):
    """Whether the move is allowed behind these sets, by the words of the document."""
    taker, out, into = move
    offer, costs = game[taker]
    things = sets[taker]
    if into in things:
        return False
    if out is None:
        return is_free_by_words(offer, things + (into,))
    if out not in things or not is_free_by_words(offer, swapped(things, out, into)):
        return False
    return costs[into][count(sets, into)] < costs[out][count(sets, out) - 1]


def sets_behind(sets, move):
    taker, out, into = move
    changed = list(sets)
    changed[taker] = swapped(sets[taker], out, into)
    return changed


def replayed(game, log):
    """The sets behind the log, or the position of its first move that is not allowed."""
    sets = [() for _ in game]
    for position, move in enumerate(log):
        if not is_allowed(game, sets, move):
            return position
        sets = sets_behind(sets, move)
    return tuple(sets)


def all_moves(game):
    things = list(range(game[0][0][0])) if game else []
    return [(taker, out, into) for taker in range(len(game)) for out in [None] + things for into in things]


class Replay(unittest.TestCase):
    def assert_stops_at(self, position, game, log):
        with self.assertRaises(BadMove) as caught:
            replay(game, log)
        self.assertEqual(caught.exception.position, position)

    def test_the_empty_log(self):
        game = make_game([(choose(2, 1), ((1, 2), (1, 2)))] * 2)
        self.assertEqual(replay(game, ()), ((), ()))
        self.assertEqual(replay((), ()), ())
        self.assertEqual(replay(make_game([((0, ((),)), ())]), ()), ((),))

    def test_adding(self):
        game = make_game([(choose(3, 2), ((1, 2), (1, 2), (1, 2))), (WAYS, ((9, 9), (1, 2), (1, 2)))])
        self.assertEqual(replay(game, ((0, None, 2),)), ((2,), ()))
        self.assertEqual(replay(game, ((0, None, 2), (1, None, 2), (0, None, 0), (1, None, 0))), ((0, 2), (0, 2)))
        self.assertEqual(replay(game, ((1, None, 1),)), ((), (1,)))

    def test_exchanging(self):
        game = make_game([(choose(3, 1), ((3, 3), (2, 4), (1, 5)))] * 2)
        log = ((0, None, 0), (0, 0, 1), (0, 1, 2), (1, None, 0))
        self.assertEqual(replay(game, log), ((2,), (0,)))
        self.assert_stops_at(4, game, log + ((1, 0, 2),))
        self.assertEqual(replay(game, log + ((1, 0, 1),)), ((2,), (1,)))

    def test_a_thing_that_is_in_the_set(self):
        game = make_game([(choose(3, 2), ((1,), (2,), (3,)))])
        self.assert_stops_at(1, game, ((0, None, 1), (0, None, 1)))
        self.assert_stops_at(2, game, ((0, None, 1), (0, None, 0), (0, 1, 0)))
        self.assert_stops_at(1, game, ((0, None, 1), (0, 1, 1)))

    def test_a_set_that_is_not_free(self):
        game = make_game([(WAYS, ((3,), (2,), (1,)))])
        self.assert_stops_at(1, game, ((0, None, 0), (0, None, 1)))
        self.assert_stops_at(2, game, ((0, None, 0), (0, None, 2), (0, 0, 1)))
        self.assertEqual(replay(game, ((0, None, 0), (0, 0, 1))), ((1,),))
        self.assert_stops_at(0, make_game([((2, ((),)), ((1,), (1,)))]), ((0, None, 0),))

    def test_a_thing_out_that_is_not_in_the_set(self):
        game = make_game([(choose(3, 2), ((9,), (2,), (1,)))])
        self.assert_stops_at(0, game, ((0, 0, 1),))
        self.assert_stops_at(1, game, ((0, None, 1), (0, 0, 2)))

    def test_a_cost_that_is_not_less(self):
        game = make_game([(choose(3, 1), ((2,), (2,), (3,)))])
        self.assert_stops_at(1, game, ((0, None, 0), (0, 0, 1)))
        self.assert_stops_at(1, game, ((0, None, 0), (0, 0, 2)))
        self.assertEqual(replay(game, ((0, None, 2), (0, 2, 1))), ((1,),))

    def test_loads_before_the_move(self):
        # Both have 0, so it costs 9 at its load 2; 1 costs 5 at one more than its load 0.
        game = make_game([(choose(2, 1), ((1, 9), (5, 10)))] * 2)
        both = ((0, None, 0), (1, None, 0))
        self.assertEqual(replay(game, both + ((0, 0, 1),)), ((1,), (0,)))
        # Then 0 costs 1 at its load 1 for the other one, and 9 at one more than this for the first one.
        self.assert_stops_at(3, game, both + ((0, 0, 1), (0, 1, 0)))
        self.assert_stops_at(3, game, both + ((0, 0, 1), (1, 0, 1)))

    def test_each_taker_feels_costs_of_its_own(self):
        game = make_game([(choose(2, 1), ((1, 1), (2, 2))), (choose(2, 1), ((2, 2), (1, 1)))])
        both = ((0, None, 0), (1, None, 0))
        self.assert_stops_at(2, game, both + ((0, 0, 1),))
        self.assertEqual(replay(game, both + ((1, 0, 1),)), ((0,), (1,)))

    def test_the_first_of_several(self):
        game = make_game([(choose(3, 1), ((3,), (2,), (1,)))])
        self.assert_stops_at(0, game, ((0, 0, 1), (0, 1, 1)))
        self.assert_stops_at(2, game, ((0, None, 0), (0, 0, 1), (0, 1, 0), (0, 0, 0)))

    def test_great_costs(self):
        great = 10 ** 4000
        game = make_game([(choose(2, 1), ((great,), (great - 1,)))])
        self.assertEqual(replay(game, ((0, None, 0), (0, 0, 1))), ((1,),))
        self.assert_stops_at(1, game, ((0, None, 1), (0, 1, 0)))

    def test_by_words_all_short_logs(self):
        draw = random_numbers(3)
        games = [make_game([(WAYS, ((2, 2), (1, 3), (1, 1))), (choose(3, 2), ((0, 9), (2, 5), (1, 1)))])]
        games += [random_game(draw, [choose(2, 1), choose(2, 2), (2, ((),))], 2, 2, -2, 2) for _ in range(2)]
        for game in games:
            moves = all_moves(game)
            for length in range(3 if game[0][0][0] > 2 else 4):
                for log in product(moves, repeat=length):
                    wanted = replayed(game, log)
                    if isinstance(wanted, tuple):
                        self.assertEqual(replay(game, log), wanted)
                    else:
                        self.assert_stops_at(wanted, game, log)

    def test_by_words_long_logs(self):
        draw = random_numbers(8)
        lengths = []
        for _ in range(60):
            game = random_game(draw, [WAYS, choose(3, 1), choose(3, 2), (3, ((0, 1), (2,)))], 3, 3, -4, 4)
            sets, log = [() for _ in game], ()
            for _ in range(25):
                allowed = [move for move in all_moves(game) if is_allowed(game, sets, move)]
                if allowed:
                    log += (allowed[draw(len(allowed))],)
                    sets = sets_behind(sets, log[-1])
            lengths.append(len([move for move in log if move[1] is not None]))
            self.assertEqual(replay(game, log), tuple(sets))
            for move in all_moves(game):
                if not is_allowed(game, sets, move):
                    self.assert_stops_at(len(log), game, log + (move,))
        self.assertGreater(max(lengths), 3)


class Grow(unittest.TestCase):
    def assert_grows(self, game):
        """Go through the log of grow by the words of the document; returns the number of exchanging moves."""
        found = grow(game)
        self.assertIs(type(found), tuple)
        choice, log = found
        self.assertIs(type(choice), tuple)
        self.assertIs(type(log), tuple)
        sets = [() for _ in game]
        for move in log:
            self.assertIs(type(move), tuple)
            self.assertTrue(is_allowed(game, sets, move))
            taker, out, into = move
            if out is None:
                self.assert_is_careful(game, sets, taker, into)
            sets = sets_behind(sets, move)
        self.assertEqual(tuple(sets), choice)
        self.assertEqual(replay(game, log), choice)
        for (offer, _), lot in zip(game, choice):
            self.assertIn(lot, offer[1])
        self.assertTrue(is_rest_by_words(game, choice))
        exchanges = len([move for move in log if move[1] is not None])
        ranks = sum(rank_by_words(offer, tuple(range(offer[0]))) for offer, _ in game)
        self.assertLessEqual(exchanges, ranks * ranks * (game[0][0][0] if game else 0))
        return exchanges

    def assert_is_careful(self, game, sets, taker, added):
        for move in all_moves(game):
            self.assertFalse(move[1] is not None and is_allowed(game, sets, move))
        costs = game[taker][1]
        addable = [thing for thing in range(game[0][0][0]) if is_allowed(game, sets, (taker, None, thing))]
        self.assertEqual(
            costs[added][count(sets, added)], min(costs[thing][count(sets, thing)] for thing in addable),
        )

    def test_no_takers(self):
        self.assertEqual(grow(()), ((), ()))

    def test_size_0_and_rank_0(self):
        self.assertEqual(grow(make_game([((0, ((),)), ())] * 3)), (((), (), ()), ()))
        self.assertEqual(grow(make_game([((2, ((),)), ((1, 1), (1, 1)))] * 2)), (((), ()), ()))

    def test_one_taker(self):
        self.assertEqual(grow(make_game([(choose(3, 1), ((3,), (1,), (2,)))])), (((1,),), ((0, None, 1),)))
        for offer in some_smooth_offers()[::3]:
            game = make_game([(offer, tuple((7 * at % 5 - 2,) for at in range(offer[0])))])
            self.assertEqual(self.assert_grows(game), 0)

    def test_an_exchange_is_needed(self):
        # The second taker does not want 1, and then the first one would rather leave 0.
        costs = ((0, 5), (1, 2))
        game = make_game([(choose(2, 1), costs), (choose(2, 1), ((0, 0), (9, 9)))])
        self.assertEqual(grow(game)[0], ((1,), (0,)))
        self.assertEqual(self.assert_grows(game), 1)

    def test_a_row_of_exchanges(self):
        # Each one gives way to the next one: the taker who comes last drives all others on.
        rows = {0: (0, 9, 9, 9), 1: (5, 5, 5, 5)}
        others = [tuple(rows.get(thing - own, (99,) * 4) for thing in range(4)) for own in (2, 1, 0)]
        last = ((0,) * 4,) + ((99,) * 4,) * 3
        game = make_game([(choose(4, 1), costs) for costs in others + [last]])
        self.assert_grows(game)
        self.assertEqual(grow(game)[0], ((3,), (2,), (1,), (0,)))

    def test_equal_costs(self):
        for offer in some_smooth_offers()[::3]:
            game = make_game([(offer, tuple((4, 4, 4) for _ in range(offer[0])))] * 3)
            self.assertEqual(self.assert_grows(game), 0)

    def test_by_words(self):
        draw = random_numbers(1)
        offers = [[] for _ in range(5)]
        for offer in some_smooth_offers():
            if offer[0] < 5:
                offers[offer[0]].append(offer)
        exchanges = []
        for takers in range(1, 6):
            for size in range(1, 5):
                for least, most in ((0, 3), (-6, 6), (-40, 60)):
                    for _ in range(4):
                        exchanges.append(self.assert_grows(random_game(draw, offers[size], takers, takers, least, most)))
        self.assertGreater(sum(exchanges), 20)

    def test_greater_offers(self):
        draw = random_numbers(2)
        offers = [
            trees(4, ((0, 1), (1, 2), (2, 3), (3, 0), (0, 2), (1, 3))), choose(6, 3), choose(6, 2),
            parts(((2, 1), (2, 1), (2, 1))), renamed(parts(((3, 2), (3, 1))), (5, 0, 3, 1, 4, 2), 6),
        ]
        exchanges = [
            self.assert_grows(random_game(draw, offers, takers, takers + 1, -20, 20))
            for takers in (2, 3, 4, 5, 6) for _ in range(4)
        ]
        self.assertGreater(max(exchanges), 5)

    def test_twelve_things(self):
        draw = random_numbers(4)
        full = (12, (tuple(range(12)),))
        self.assert_grows(random_game(draw, [full], 6, 6))
        self.assert_grows(random_game(draw, [choose(12, 2), choose(12, 1)], 2, 40))

    def test_great_costs(self):
        great = 10 ** 3000
        costs = ((great, great + 2), (great + 1, great + 3))
        self.assert_grows(make_game([(choose(2, 1), costs)] * 2))

    def test_rough_offers(self):
        smooth = (choose(3, 1), ((1, 1, 1),) * 3)
        rough = (WAYS, ((1, 1, 1),) * 3)
        self.assertFalse(is_smooth_by_words(WAYS))
        for takers, first in (
            ([rough], 0), ([smooth, rough], 1), ([rough, smooth], 0), ([smooth, rough, rough], 1),
            ([smooth, smooth, rough], 2),
        ):
            with self.assertRaises(NotSmooth) as caught:
                grow(make_game(takers))
            self.assertEqual(caught.exception.taker, first)


if __name__ == "__main__":
    unittest.main()

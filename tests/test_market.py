import unittest

from takersrest.builders import choose, parts, renamed, trees
from takersrest.errors import HallFull, NothingToUndo, UnknownTaker
from takersrest.market import Market
from takersrest.posted import judge_posted
from tests.helpers import (
    choices_of, count_choices, crowd_sum_by_words, fits_by_words, load_by_words, random_costs, random_numbers,
    smooth_by_size,
)
from tests.watched import GREAT, WAYS, Refusals, Watched


def seen(market):
    """All that a market shows."""
    return market.places(), market.game(), market.prices(), market.loads(), market.crowd()


class WatchedMarket(Watched):
    """A market in which each deed is judged by the words of points 41 and 43."""

    def __init__(self, test, costs, room, most_choices=2000):
        Watched.__init__(self, test, Market(costs, room), seen)
        self.costs = costs
        self.most_choices = most_choices
        self.check()

    def check(self):
        self.check_places()
        market, test, lots = self.kept, self.test, self.lots()
        game = tuple((offer, self.costs) for offer in self.offers())
        test.assertIs(type(market.game()), tuple)
        test.assertEqual(market.game(), game)
        test.assertIs(type(market.loads()), tuple)
        test.assertEqual(market.loads(), tuple(load_by_words(lots, thing) for thing in range(len(self.costs))))
        test.assertIs(type(market.crowd()), int)
        test.assertEqual(market.crowd(), crowd_sum_by_words(game, lots))
        prices = market.prices()
        test.assertIs(type(prices), tuple)
        test.assertEqual(len(prices), len(self.costs))
        test.assertTrue(all(type(amount) is int for amount in prices))
        if not game:
            return
        # Prices that fit are a proof of the least crowd sum; where there are few choices all of them are tried, too.
        test.assertTrue(fits_by_words(game, lots, prices))
        test.assertIs(judge_posted(game, lots, prices), True)
        if count_choices(self.offers()) <= self.most_choices:
            test.assertEqual(market.crowd(), min(crowd_sum_by_words(game, choice) for choice in choices_of(game)))

    def enter(self, offer):
        self.let_in(offer)
        self.check()

    def leave(self, number):
        self.let_out(number)
        self.check()

    def undo(self):
        self.take_back()
        self.check()


class Deeds(unittest.TestCase):
    def test_an_empty_market(self):
        for size in range(4):
            watched = WatchedMarket(self, ((1, 2, 3),) * size, 3)
            self.assertEqual(watched.kept.places(), ())
            self.assertEqual(watched.kept.game(), ())
            self.assertEqual(watched.kept.loads(), (0,) * size)
            self.assertEqual(watched.kept.crowd(), 0)
            self.assertEqual(len(watched.kept.prices()), size)

    def test_numbers_go_on(self):
        market = Market(((1, 2, 3), (1, 2, 3)), 3)
        self.assertEqual([market.enter(choose(2, 1)) for _ in range(3)], [1, 2, 3])
        market.leave(3)
        market.leave(1)
        self.assertEqual(market.enter(choose(2, 1)), 4)
        self.assertEqual([number for number, _ in market.places()], [2, 4])
        market.leave(2)
        market.leave(4)
        self.assertEqual(market.places(), ())
        self.assertEqual(market.enter(choose(2, 1)), 5)

    def test_others_give_way(self):
        watched = WatchedMarket(self, ((0, 9), (3, 9), (5, 9)), 2)
        watched.enter((3, ((0,), (1,))))
        self.assertEqual(watched.kept.places(), ((1, (0,)),))
        watched.enter((3, ((0,),)))
        self.assertEqual(watched.kept.places(), ((1, (1,)), (2, (0,))))
        self.assertEqual((watched.kept.loads(), watched.kept.crowd()), ((1, 1, 0), 3))
        watched.leave(2)
        self.assertEqual(watched.kept.places(), ((1, (0,)),))
        self.assertEqual((watched.kept.loads(), watched.kept.crowd()), ((1, 0, 0), 0))

    def test_more_than_a_rest(self):
        # ((0,), (1,)) would be at rest with the crowd sum 6.
        watched = WatchedMarket(self, ((5, 9), (1, 9), (2, 9)), 2)
        watched.enter((3, ((1,), (2,))))
        self.assertEqual(watched.kept.places(), ((1, (1,)),))
        watched.enter((3, ((0,), (1,))))
        self.assertEqual(watched.kept.places(), ((1, (2,)), (2, (1,))))
        self.assertEqual(watched.kept.crowd(), 3)

    def test_size_0(self):
        watched = WatchedMarket(self, (), 2)
        watched.enter((0, ((),)))
        watched.enter((0, ((),)))
        watched.leave(1)
        self.assertEqual(seen(watched.kept), (((2, ()),), (((0, ((),)), ()),), (), (), 0))

    def test_offers_with_the_empty_lot_alone(self):
        watched = WatchedMarket(self, ((4, 5), (-4, 5)), 2)
        watched.enter((2, ((),)))
        watched.enter((2, ((),)))
        self.assertEqual((watched.kept.loads(), watched.kept.crowd()), ((0, 0), 0))

    def test_great_costs(self):
        watched = WatchedMarket(self, ((GREAT, GREAT + 2), (-GREAT, GREAT + 1)), 2)
        watched.enter(choose(2, 1))
        self.assertEqual(watched.kept.places(), ((1, (1,)),))
        self.assertEqual(watched.kept.crowd(), -GREAT)
        watched.enter(choose(2, 1))
        self.assertEqual(watched.kept.crowd(), 0)
        self.assertEqual(watched.kept.loads(), (1, 1))

    def test_two_markets_side_by_side(self):
        costs = ((1, 1), (2, 2))
        first, second = Market(costs, 2), Market(costs, 2)
        self.assertEqual([first.enter(choose(2, 1)), first.enter(choose(2, 2))], [1, 2])
        self.assertEqual((second.places(), second.game(), second.loads(), second.crowd()), ((), (), (0, 0), 0))
        self.assertEqual(second.enter(choose(2, 2)), 1)
        first.leave(1)
        self.assertEqual(second.places(), ((1, (0, 1)),))
        second.undo()
        with self.assertRaises(NothingToUndo):
            second.undo()
        self.assertEqual(first.places(), ((2, (0, 1)),))


class ByWords(unittest.TestCase):
    def act(self, watched, draw, offers, room):
        numbers = sorted(watched.takers)
        kind = draw(8)
        if len(numbers) < room and (kind < 4 or not numbers):
            watched.enter(offers[draw(len(offers))])
        elif numbers and kind < 6:
            watched.leave(numbers[draw(len(numbers))])
        elif watched.past:
            watched.undo()

    def test_small_markets(self):
        draw = random_numbers(43)
        smooth = smooth_by_size()
        for size in range(5):
            for room in (0, 1, 2, 4, 6):
                for least, most in ((0, 3), (-6, 6), (-40, 60), (2, 2)):
                    watched = WatchedMarket(self, random_costs(draw, size, room, least, most), room)
                    for _ in range(14):
                        self.act(watched, draw, smooth[size], room)
                    while watched.past:
                        watched.undo()
                    with self.assertRaises(NothingToUndo):
                        watched.kept.undo()

    def test_greater_markets(self):
        draw = random_numbers(44)
        offers = [
            trees(4, ((0, 1), (1, 2), (2, 3), (3, 0), (0, 2), (1, 3))), choose(6, 3), choose(6, 2),
            parts(((2, 1), (2, 1), (2, 1))), renamed(parts(((3, 2), (3, 1))), (5, 0, 3, 1, 4, 2), 6),
        ] + [(6, ((at,), (at + 1,))) for at in range(5)]
        for least, most in ((-20, 20), (0, 5), (0, 200)):
            watched = WatchedMarket(self, random_costs(draw, 6, 6, least, most), 6)
            for _ in range(40):
                self.act(watched, draw, offers, 6)

    def test_twelve_things(self):
        draw = random_numbers(45)
        watched = WatchedMarket(self, random_costs(draw, 12, 6, -99, 99), 6)
        offers = [choose(12, 2), choose(12, 11), (12, (tuple(range(12)),)), parts(((2, 1),) * 6)]
        for offer in offers + offers[:2]:
            watched.enter(offer)
        watched.leave(3)
        watched.leave(1)


class Undoing(unittest.TestCase):
    def test_down_to_the_empty_market(self):
        watched = WatchedMarket(self, ((0, 9), (3, 9), (5, 9)), 2)
        watched.enter((3, ((0,), (1,))))
        watched.enter((3, ((0,),)))
        watched.leave(1)
        watched.leave(2)
        for _ in range(4):
            watched.undo()
        self.assertEqual((watched.kept.places(), watched.kept.game()), ((), ()))
        with self.assertRaises(NothingToUndo):
            watched.kept.undo()

    def test_deeds_behind_undoing(self):
        market = Market(((1, 2, 3), (1, 2, 3)), 3)
        market.enter(choose(2, 2))
        market.enter(choose(2, 1))
        market.undo()
        market.leave(1)
        market.undo()
        self.assertEqual(market.places(), ((1, (0, 1)),))
        market.undo()
        self.assertEqual(market.places(), ())
        with self.assertRaises(NothingToUndo):
            market.undo()


class Errors(Refusals, unittest.TestCase):
    def setUp(self):
        self.kept = Market(((1, 2), (1, 2), (1, 2)), 2)
        self.enter(choose(3, 1))

    def seen(self, market):
        return seen(market)

    def enter(self, offer):
        return self.kept.enter(offer)

    def test_market_full(self):
        self.enter(choose(3, 1))
        for offer in (choose(3, 1), choose(2, 1), WAYS, (4, ((0, 2), (1,)))):
            self.assert_refused(HallFull, lambda: self.enter(offer))
        self.kept.leave(1)
        self.assertEqual(self.enter(choose(3, 1)), 3)

    def test_room_0(self):
        for size in range(4):
            self.kept = Market(((),) * size, 0)
            for offer in (choose(3, 1), WAYS, (0, ((),))):
                self.assert_refused(HallFull, lambda: self.enter(offer))
            self.assert_refused(UnknownTaker, lambda: self.kept.leave(1))
            self.assert_refused(NothingToUndo, lambda: self.kept.undo())
            self.assertEqual((self.kept.loads(), len(self.kept.prices())), ((0,) * size, size))


if __name__ == "__main__":
    unittest.main()

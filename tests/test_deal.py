import unittest

from takersrest.apart import apart
from takersrest.builders import choose, parts, renamed, trees
from takersrest.deal import Deal
from takersrest.errors import Barred, NothingToUndo, RoughOffer, WrongSize
from tests.helpers import (
    all_sets, choices_of, count_choices, is_bar_by_words, load_by_words, random_numbers, smooth_by_size,
)
from tests.watched import GREAT, WAYS, Refusals, Watched, refused


def seen(deal):
    """All that a deal shows."""
    return deal.places(), deal.free_places()


class WatchedDeal(Watched):
    """A deal in which each deed is judged by the words of points 35 and 48."""

    def __init__(self, test, size, limit):
        Watched.__init__(self, test, Deal(size, limit), seen)
        self.size = size
        self.limit = limit
        self.check()

    def check(self):
        self.check_places()
        free = self.kept.free_places()
        self.test.assertIs(type(free), tuple)
        self.test.assertEqual(
            free, tuple(self.limit - load_by_words(self.lots(), thing) for thing in range(self.size)),
        )
        self.test.assertTrue(all(number >= 0 for number in free))

    def can_enter(self, offer):
        """Whether all can be apart with this offer: all choices or all sets tried, whichever are fewer."""
        offers = self.offers() + [offer]
        if count_choices(offers) > 2 ** self.size:
            return not any(is_bar_by_words(offers, self.limit, things) for things in all_sets(self.size))
        choices = choices_of([(offer,) for offer in offers])
        things = range(self.size)
        return any(all(load_by_words(choice, thing) <= self.limit for thing in things) for choice in choices)

    def enter(self, offer):
        """Let the offer in, if it can be; returns whether it could."""
        if self.can_enter(offer):
            self.let_in(offer)
            self.check()
            return True
        error = refused(self.test, Barred, self.kept, seen, lambda: self.kept.enter(offer))
        self.test.assertTrue(is_bar_by_words(self.offers() + [offer], self.limit, error.bar))
        return False

    def leave(self, number):
        kept = tuple(pair for pair in self.kept.places() if pair[0] != number)
        self.let_out(number)
        self.check()
        self.test.assertEqual(self.kept.places(), kept)

    def undo(self):
        self.take_back()
        self.check()


class Deeds(unittest.TestCase):
    def test_an_empty_deal(self):
        for size in range(4):
            for limit in (0, 1, GREAT):
                self.assertEqual(seen(Deal(size, limit)), ((), (limit,) * size))

    def test_numbers_go_on(self):
        deal = Deal(2, 2)
        self.assertEqual([deal.enter(choose(2, 1)) for _ in range(3)], [1, 2, 3])
        deal.leave(3)
        deal.leave(1)
        self.assertEqual(deal.enter(choose(2, 1)), 4)
        self.assertEqual([number for number, _ in deal.places()], [2, 4])
        deal.leave(2)
        deal.leave(4)
        self.assertEqual(seen(deal), ((), (2, 2)))
        self.assertEqual(deal.enter(choose(2, 1)), 5)

    def test_entering_moves_others(self):
        watched = WatchedDeal(self, 3, 1)
        watched.enter((3, ((0,), (1,))))
        watched.enter((3, ((0,), (2,))))
        for first in watched.lots()[0]:
            # Whichever thing it has, the next one wants just this.
            self.assertIs(watched.enter((3, ((first,),))), True)
            self.assertNotEqual(watched.lots()[0], (first,))

    def test_a_row_of_takers_moves(self):
        watched = WatchedDeal(self, 5, 1)
        for at in range(4):
            watched.enter((5, ((at,), (at + 1,))))
        watched.enter((5, ((0,),)))
        self.assertEqual(watched.lots(), ((1,), (2,), (3,), (4,), (0,)))
        self.assertEqual(watched.kept.free_places(), (0, 0, 0, 0, 0))
        self.assertIs(watched.enter((5, ((3,),))), False)
        watched.leave(5)
        self.assertEqual(watched.lots(), ((1,), (2,), (3,), (4,)))
        self.assertEqual(watched.kept.free_places(), (1, 0, 0, 0, 0))
        watched.enter((5, ((4,),)))
        self.assertEqual(watched.lots(), ((0,), (1,), (2,), (3,), (4,)))

    def test_limit_0(self):
        watched = WatchedDeal(self, 3, 0)
        self.assertIs(watched.enter(choose(3, 1)), False)
        self.assertIs(watched.enter((3, ((),))), True)
        self.assertIs(watched.enter((3, ((),))), True)
        self.assertIs(watched.enter((3, ((0, 1, 2),))), False)
        self.assertEqual(seen(watched.kept), (((1, ()), (2, ())), (0, 0, 0)))

    def test_size_0(self):
        for limit in (0, 1, GREAT):
            watched = WatchedDeal(self, 0, limit)
            self.assertIs(watched.enter((0, ((),))), True)
            self.assertIs(watched.enter((0, ((),))), True)
            watched.leave(1)
            self.assertEqual(seen(watched.kept), (((2, ()),), ()))

    def test_great_limits(self):
        watched = WatchedDeal(self, 2, GREAT)
        for _ in range(6):
            self.assertIs(watched.enter((2, ((0, 1),))), True)
        self.assertEqual(watched.kept.free_places(), (GREAT - 6, GREAT - 6))

    def test_two_deals_side_by_side(self):
        first, second = Deal(2, 2), Deal(2, 1)
        self.assertEqual([first.enter(choose(2, 1)), first.enter(choose(2, 2))], [1, 2])
        self.assertEqual(seen(second), ((), (1, 1)))
        self.assertEqual(second.enter(choose(2, 2)), 1)
        first.leave(1)
        self.assertEqual(seen(second), (((1, (0, 1)),), (0, 0)))
        second.undo()
        with self.assertRaises(NothingToUndo):
            second.undo()
        self.assertEqual(first.places(), ((2, (0, 1)),))


class ByWords(unittest.TestCase):
    def act(self, watched, draw, offers):
        """One call; returns whether it was an offer that could not enter."""
        numbers = sorted(watched.takers)
        kind = draw(8)
        if len(numbers) < 6 and (kind < 5 or not numbers):
            return not watched.enter(offers[draw(len(offers))])
        if numbers and kind < 7:
            watched.leave(numbers[draw(len(numbers))])
        elif watched.past:
            watched.undo()
        return False

    def test_small_deals(self):
        draw = random_numbers(48)
        smooth = smooth_by_size()
        barred = 0
        for size in range(5):
            for limit in (0, 1, 2, 3, 7):
                for _ in range(2):
                    watched = WatchedDeal(self, size, limit)
                    barred += sum(self.act(watched, draw, smooth[size]) for _ in range(40))
                    while watched.past:
                        watched.undo()
                    self.assertEqual(seen(watched.kept), ((), (limit,) * size))
                    with self.assertRaises(NothingToUndo):
                        watched.kept.undo()
        self.assertGreater(barred, 50)

    def test_greater_deals(self):
        draw = random_numbers(49)
        offers = [
            trees(4, ((0, 1), (1, 2), (2, 3), (3, 0), (0, 2), (1, 3))), choose(6, 3), choose(6, 2),
            parts(((2, 1), (2, 1), (2, 1))), renamed(parts(((3, 2), (3, 1))), (5, 0, 3, 1, 4, 2), 6),
        ] + [(6, ((at,), (at + 1,))) for at in range(5)]
        barred = 0
        for limit in (1, 2, 3):
            watched = WatchedDeal(self, 6, limit)
            barred += sum(self.act(watched, draw, offers) for _ in range(40))
        self.assertGreater(barred, 5)

    def test_twelve_things(self):
        offers = [choose(12, 2), choose(12, 11), (12, (tuple(range(12)),)), parts(((2, 1),) * 6)]
        deal = Deal(12, 3)
        for offer in offers:
            deal.enter(offer)
        with self.assertRaises(Barred) as caught:
            deal.enter(offers[1])
        self.assertTrue(is_bar_by_words(offers + offers[1:2], 3, caught.exception.bar))
        self.assertIsNone(apart(tuple(offers + offers[1:2]), 3))
        self.assertEqual(deal.enter(offers[0]), 5)


class Undoing(unittest.TestCase):
    def test_down_to_the_empty_deal(self):
        watched = WatchedDeal(self, 3, 1)
        watched.enter((3, ((0,), (1,))))
        watched.enter((3, ((0,),)))
        watched.leave(1)
        watched.leave(2)
        for _ in range(4):
            watched.undo()
        self.assertEqual(seen(watched.kept), ((), (1, 1, 1)))
        with self.assertRaises(NothingToUndo):
            watched.kept.undo()

    def test_lots_as_they_were(self):
        watched = WatchedDeal(self, 3, 1)
        watched.enter((3, ((0,), (1,))))
        before = watched.lots()
        watched.enter((3, (before[0],)))
        self.assertNotEqual(watched.lots()[0], before[0])
        watched.undo()
        self.assertEqual(watched.lots(), before)


class Errors(Refusals, unittest.TestCase):
    def setUp(self):
        self.kept = Deal(3, 1)
        self.enter((3, ((0,),)))

    def seen(self, deal):
        return seen(deal)

    def enter(self, offer):
        return self.kept.enter(offer)

    def test_rough_before_barred(self):
        self.kept = Deal(3, 0)
        self.assert_refused(RoughOffer, lambda: self.enter(WAYS))
        self.assert_refused(WrongSize, lambda: self.enter(choose(4, 1)))

    def test_barred(self):
        error = self.assert_refused(Barred, lambda: self.enter(choose(3, 3)))
        self.assertTrue(is_bar_by_words([(3, ((0,),)), choose(3, 3)], 1, error.bar))
        error = self.assert_refused(Barred, lambda: self.enter((3, ((0,),))))
        self.assertEqual(error.bar, (1, 2))
        self.assert_one_deed()


if __name__ == "__main__":
    unittest.main()

import unittest

from takersrest.builders import choose, parts, renamed, trees
from takersrest.errors import HallFull, NothingToUndo, UnknownTaker, WrongSize
from takersrest.hall import Hall
from tests.helpers import (
    is_rest_by_words, load_by_words, random_costs, random_numbers, ranks_of, smooth_by_size,
)
from tests.watched import GREAT, WAYS, Refusals, Watched


def seen(hall):
    """All that a hall shows."""
    return hall.places(), hall.game(), hall.loads(), hall.exchanges


class WatchedHall(Watched):
    """A hall in which each deed is judged by the words of points 29 to 31."""

    def __init__(self, test, size, room):
        Watched.__init__(self, test, Hall(size, room), seen)
        self.size = size
        self.made = 0
        self.check()

    def check(self):
        self.check_places()
        hall, test = self.kept, self.test
        test.assertIs(type(hall.game()), tuple)
        test.assertEqual(hall.game(), tuple(self.takers[number] for number in sorted(self.takers)))
        test.assertTrue(is_rest_by_words(hall.game(), self.lots()))
        test.assertIs(type(hall.loads()), tuple)
        test.assertEqual(hall.loads(), tuple(load_by_words(self.lots(), thing) for thing in range(self.size)))
        test.assertIs(type(hall.exchanges), int)

    def judge(self, number, times, act):
        """Do a deed of the taker with this number and judge its exchanges."""
        before = dict(self.kept.places())
        earlier = self.kept.exchanges
        offers = self.offers()
        act()
        self.check()
        made = self.kept.exchanges - earlier
        after = dict(self.kept.places())
        others = [known for known in before if known in after and known != number]
        gained = sum(len(set(after[known]) - set(before[known])) for known in others)
        if number not in before:
            offers.append(self.takers[number][0])
        ranks = ranks_of(offers, tuple(range(self.size)))
        self.test.assertGreaterEqual(made, gained)
        self.test.assertLessEqual(made, times * ranks * ranks * self.size)
        self.made += made

    def enter(self, offer, costs):
        self.judge(self.following, 1, lambda: self.let_in(offer, costs))

    def leave(self, number):
        self.judge(number, 1, lambda: self.let_out(number))

    def change(self, number, costs):
        def act():
            self.remember()
            self.test.assertIsNone(self.kept.change(number, costs))
            self.takers[number] = (self.takers[number][0], costs)
        self.judge(number, 2, act)

    def undo(self):
        self.take_back()
        self.check()


class Deeds(unittest.TestCase):
    def test_an_empty_hall(self):
        for size in range(4):
            self.assertEqual(seen(Hall(size, 3)), ((), (), (0,) * size, 0))

    def test_numbers_go_on(self):
        hall = Hall(2, 3)
        costs = ((1, 2, 3), (1, 2, 3))
        self.assertEqual([hall.enter(choose(2, 1), costs) for _ in range(3)], [1, 2, 3])
        hall.leave(3)
        hall.leave(1)
        self.assertEqual(hall.enter(choose(2, 1), costs), 4)
        self.assertEqual([number for number, _ in hall.places()], [2, 4])
        hall.leave(2)
        hall.leave(4)
        self.assertEqual(hall.places(), ())
        self.assertEqual(hall.enter(choose(2, 1), costs), 5)

    def test_entering_drives_others_on(self):
        hall = Hall(2, 2)
        hall.enter(choose(2, 1), ((0, 5), (1, 2)))
        self.assertEqual(hall.places(), ((1, (0,)),))
        hall.enter(choose(2, 1), ((0, 0), (9, 9)))
        self.assertEqual(hall.places(), ((1, (1,)), (2, (0,))))
        self.assertEqual(hall.exchanges, 1)
        self.assertEqual(hall.loads(), (1, 1))

    def test_leaving_makes_others_come_back(self):
        hall = Hall(2, 2)
        hall.enter(choose(2, 1), ((0, 5), (1, 2)))
        hall.enter(choose(2, 1), ((0, 0), (9, 9)))
        hall.leave(2)
        self.assertEqual(hall.places(), ((1, (0,)),))
        self.assertEqual(hall.exchanges, 2)

    def test_changing(self):
        hall = Hall(2, 2)
        hall.enter(choose(2, 1), ((0, 5), (1, 2)))
        hall.enter(choose(2, 1), ((9, 9), (0, 0)))
        self.assertEqual(hall.places(), ((1, (0,)), (2, (1,))))
        hall.change(2, ((0, 0), (9, 9)))
        self.assertEqual(hall.places(), ((1, (1,)), (2, (0,))))
        self.assertEqual(hall.game()[1], (choose(2, 1), ((0, 0), (9, 9))))
        self.assertEqual(hall.game()[0], (choose(2, 1), ((0, 5), (1, 2))))

    def test_gaps_are_filled_by_a_row_of_exchanges(self):
        # Each taker would rather have the thing of the one before it.
        watched = WatchedHall(self, 4, 4)
        rows = {0: (0, 9, 9, 9), 1: (5, 6, 7, 8)}
        watched.enter(choose(4, 1), ((0,) * 4,) + ((99,) * 4,) * 3)
        for own in range(3):
            watched.enter(choose(4, 1), tuple(rows.get(thing - own, (99,) * 4) for thing in range(4)))
        self.assertEqual(watched.lots(), ((0,), (1,), (2,), (3,)))
        watched.leave(1)
        self.assertEqual(watched.lots(), ((0,), (1,), (2,)))
        self.assertEqual(watched.kept.exchanges, 3)

    def test_the_best_one_fills_a_gap(self):
        # Behind the leaving of 2 only the best exchange leaves the first one at rest.
        watched = WatchedHall(self, 4, 2)
        watched.enter(choose(4, 2), ((0, 9), (5, 5), (7, 7), (9, 9)))
        watched.enter((4, ((0,),)), ((0, 0),) * 4)
        self.assertEqual(watched.kept.places(), ((1, (1, 2)), (2, (0,))))
        watched.leave(2)
        self.assertEqual(watched.kept.places(), ((1, (0, 1)),))
        self.assertEqual(watched.kept.exchanges, 2)

    def test_size_0(self):
        watched = WatchedHall(self, 0, 2)
        watched.enter((0, ((),)), ())
        watched.enter((0, ((),)), ())
        watched.change(1, ())
        watched.leave(1)
        self.assertEqual(seen(watched.kept), (((2, ()),), (((0, ((),)), ()),), (), 0))

    def test_size_1(self):
        watched = WatchedHall(self, 1, 3)
        for costs in (((1, 2, 3),), ((0, 0, 0),), ((-7, 0, 7),)):
            watched.enter((1, ((0,),)), costs)
        self.assertEqual(watched.kept.loads(), (3,))
        watched.change(2, ((5, 5, 5),))
        watched.leave(1)
        self.assertEqual(watched.kept.places(), ((2, (0,)), (3, (0,))))
        self.assertEqual(watched.kept.exchanges, 0)

    def test_equal_tables(self):
        watched = WatchedHall(self, 4, 3)
        costs = ((1, 2, 3), (1, 2, 3), (2, 2, 2), (2, 2, 2))
        for _ in range(3):
            watched.enter(choose(4, 2), costs)
        for number in (1, 2, 3, 2):
            watched.change(number, tuple(tuple(row) for row in costs))
        self.assertEqual(watched.kept.game(), ((choose(4, 2), costs),) * 3)

    def test_great_costs(self):
        watched = WatchedHall(self, 2, 2)
        watched.enter(choose(2, 1), ((GREAT, GREAT + 2), (GREAT + 1, GREAT + 3)))
        self.assertEqual(watched.kept.places(), ((1, (0,)),))
        watched.enter(choose(2, 1), ((-GREAT, -GREAT), (1 - GREAT, 2 - GREAT)))
        self.assertEqual(watched.kept.places(), ((1, (1,)), (2, (0,))))

    def test_two_halls_side_by_side(self):
        first, second = Hall(2, 2), Hall(2, 2)
        costs = ((1, 1), (2, 2))
        self.assertEqual(first.enter(choose(2, 1), costs), 1)
        self.assertEqual(first.enter(choose(2, 2), costs), 2)
        self.assertEqual(seen(second), ((), (), (0, 0), 0))
        self.assertEqual(second.enter(choose(2, 2), costs), 1)
        first.leave(1)
        self.assertEqual(second.places(), ((1, (0, 1)),))
        second.undo()
        with self.assertRaises(NothingToUndo):
            second.undo()
        self.assertEqual(first.places(), ((2, (0, 1)),))

    def test_what_was_shown_stays(self):
        hall = Hall(2, 2)
        hall.enter(choose(2, 1), ((0, 5), (1, 2)))
        places, game, loads = hall.places(), hall.game(), hall.loads()
        hall.enter(choose(2, 1), ((0, 0), (9, 9)))
        self.assertEqual((places, game, loads), (((1, (0,)),), ((choose(2, 1), ((0, 5), (1, 2))),), (1, 0)))


class ByWords(unittest.TestCase):
    def act(self, watched, draw, offers, room, least, most):
        numbers = sorted(watched.takers)
        size = watched.size
        kind = draw(8)
        if len(numbers) < room and (kind < 4 or not numbers):
            watched.enter(offers[draw(len(offers))], random_costs(draw, size, room, least, most))
        elif not numbers:
            return
        elif kind < 6:
            watched.change(numbers[draw(len(numbers))], random_costs(draw, size, room, least, most))
        elif kind == 6 and watched.past:
            watched.undo()
        else:
            watched.leave(numbers[draw(len(numbers))])

    def test_small_halls(self):
        draw = random_numbers(29)
        smooth = smooth_by_size()
        made = 0
        for size in range(5):
            for room in (0, 1, 2, 4, 6):
                for least, most in ((0, 3), (-6, 6), (-40, 60), (2, 2)):
                    watched = WatchedHall(self, size, room)
                    for _ in range(30):
                        self.act(watched, draw, smooth[size], room, least, most)
                    made += watched.made
                    while watched.past:
                        watched.undo()
                    self.assertEqual(seen(watched.kept), ((), (), (0,) * size, 0))
                    with self.assertRaises(NothingToUndo):
                        watched.kept.undo()
        self.assertGreater(made, 100)

    def test_greater_halls(self):
        draw = random_numbers(30)
        offers = [
            trees(4, ((0, 1), (1, 2), (2, 3), (3, 0), (0, 2), (1, 3))), choose(6, 3), choose(6, 2),
            parts(((2, 1), (2, 1), (2, 1))), renamed(parts(((3, 2), (3, 1))), (5, 0, 3, 1, 4, 2), 6),
        ]
        for least, most in ((-20, 20), (0, 5), (0, 200)):
            watched = WatchedHall(self, 6, 6)
            for _ in range(40):
                self.act(watched, draw, offers, 6, least, most)
            self.assertGreater(watched.made, 10)

    def test_twelve_things(self):
        draw = random_numbers(31)
        watched = WatchedHall(self, 12, 6)
        for offer in (choose(12, 2), choose(12, 11), (12, (tuple(range(12)),)), parts(((2, 1),) * 6)):
            watched.enter(offer, random_costs(draw, 12, 6, -99, 99))
        watched.change(1, random_costs(draw, 12, 6, -99, 99))
        watched.leave(3)


class Undoing(unittest.TestCase):
    def test_down_to_the_empty_hall(self):
        watched = WatchedHall(self, 2, 2)
        watched.enter(choose(2, 1), ((0, 5), (1, 2)))
        watched.enter(choose(2, 1), ((0, 0), (9, 9)))
        watched.change(1, ((9, 9), (0, 0)))
        watched.leave(2)
        for _ in range(4):
            watched.undo()
        self.assertEqual(seen(watched.kept), ((), (), (0, 0), 0))
        with self.assertRaises(NothingToUndo):
            watched.kept.undo()

    def test_deeds_behind_undoing(self):
        hall = Hall(2, 2)
        hall.enter(choose(2, 1), ((0, 5), (1, 2)))
        hall.enter(choose(2, 1), ((0, 0), (9, 9)))
        hall.undo()
        self.assertEqual(hall.exchanges, 0)
        hall.change(1, ((3, 3), (2, 2)))
        hall.undo()
        self.assertEqual(hall.game(), ((choose(2, 1), ((0, 5), (1, 2))),))
        self.assertEqual(hall.places(), ((1, (0,)),))
        hall.undo()
        self.assertEqual(hall.game(), ())
        with self.assertRaises(NothingToUndo):
            hall.undo()

    def test_undoing_is_no_deed(self):
        hall = Hall(1, 2)
        with self.assertRaises(NothingToUndo):
            hall.undo()
        hall.enter((1, ((0,),)), ((1, 2),))
        hall.undo()
        with self.assertRaises(NothingToUndo):
            hall.undo()
        self.assertEqual(hall.enter((1, ((0,),)), ((1, 2),)), 1)


class Errors(Refusals, unittest.TestCase):
    def setUp(self):
        self.costs = ((1, 2), (1, 2), (1, 2))
        self.kept = Hall(3, 2)
        self.enter(choose(3, 1))

    def seen(self, hall):
        return seen(hall)

    def enter(self, offer):
        return self.kept.enter(offer, self.costs)

    def wrong_tables(self):
        return [
            (), self.costs[:2], self.costs + ((1, 2),), ((1,), (1, 2), (1, 2)), ((1, 2), (1, 2), (1, 2, 3)),
            ((1,), (1,), (1,)), ((1, 2, 3),) * 3, ((), (), ()),
        ]

    def test_hall_full(self):
        self.enter(choose(3, 1))
        for offer in (choose(3, 1), choose(2, 1), WAYS):
            for costs in [self.costs] + self.wrong_tables():
                self.assert_refused(HallFull, lambda: self.kept.enter(offer, costs))
        self.kept.leave(1)
        self.assertEqual(self.enter(choose(3, 1)), 3)

    def test_room_0(self):
        self.kept = Hall(3, 0)
        self.assert_refused(HallFull, lambda: self.kept.enter(choose(3, 1), ((), (), ())))
        self.assert_refused(HallFull, lambda: self.enter(WAYS))
        self.assert_refused(UnknownTaker, lambda: self.kept.leave(1))
        self.assert_refused(NothingToUndo, lambda: self.kept.undo())

    def test_tables_of_the_size_of_a_wrong_offer(self):
        for offer in (choose(2, 1), choose(4, 1), (0, ((),)), (4, ((0, 2), (1,)))):
            self.assert_refused(WrongSize, lambda: self.kept.enter(offer, self.costs[:1] * offer[0]))
        self.assert_one_deed()

    def test_wrong_tables(self):
        for costs in self.wrong_tables():
            for offer in (choose(3, 1), WAYS):
                self.assert_refused(WrongSize, lambda: self.kept.enter(offer, costs))
            self.assert_refused(WrongSize, lambda: self.kept.change(1, costs))
        self.assert_one_deed()

    def test_changing_unknown_takers(self):
        for number in (0, 2, -1, GREAT):
            for costs in [self.costs] + self.wrong_tables():
                error = self.assert_refused(UnknownTaker, lambda: self.kept.change(number, costs))
                self.assertEqual(error.number, number)
        self.assert_one_deed()

    def test_changing_takers_who_have_left(self):
        self.enter(choose(3, 1))
        self.kept.leave(1)
        self.assertEqual(self.assert_refused(UnknownTaker, lambda: self.kept.change(1, self.costs)).number, 1)
        self.kept.change(2, self.costs)


if __name__ == "__main__":
    unittest.main()

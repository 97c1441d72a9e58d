"""What the tests of halls, markets and deals share."""

from takersrest.builders import choose
from takersrest.errors import NothingToUndo, RoughOffer, UnknownTaker, WrongSize
from tests.helpers import faults_by_words

WAYS = (3, ((0, 2), (1,)))
GREAT = 10 ** 4000


class Watched:
    """A hall, a market or a deal, and a record of who has to be there. seen tells all that it shows."""

    def __init__(self, test, kept, seen):
        self.test = test
        self.kept = kept
        self.seen = seen
        self.takers = {}
        self.following = 1
        self.past = []

    def lots(self):
        return tuple(lot for _, lot in self.kept.places())

    def offers(self):
        return [self.takers[number][0] for number in sorted(self.takers)]

    def check_places(self):
        """Those who have to be there are there, each with a lot of its offer."""
        places = self.kept.places()
        self.test.assertIs(type(places), tuple)
        self.test.assertTrue(all(type(pair) is tuple for pair in places))
        self.test.assertEqual([number for number, _ in places], sorted(self.takers))
        for offer, lot in zip(self.offers(), self.lots()):
            self.test.assertIn(lot, offer[1])

    def remember(self):
        self.past.append((self.seen(self.kept), dict(self.takers), self.following))

    def let_in(self, *taker):
        self.remember()
        self.test.assertEqual(self.kept.enter(*taker), self.following)
        self.takers[self.following] = taker
        self.following += 1

    def let_out(self, number):
        self.remember()
        self.test.assertIsNone(self.kept.leave(number))
        del self.takers[number]

    def take_back(self):
        self.test.assertIsNone(self.kept.undo())
        shown, self.takers, self.following = self.past.pop()
        self.test.assertEqual(self.seen(self.kept), shown)


def refused(test, error, watched, seen, act):
    """The call raises just this error and changes nothing; returns the error."""
    before = seen(watched)
    with test.assertRaises(error) as caught:
        act()
    test.assertIs(type(caught.exception), error)
    test.assertEqual(seen(watched), before)
    return caught.exception


class Refusals:
    """What halls, markets and deals refuse alike.

    A test case has self.kept, which has the size 3, room for a second taker with the lot (1,), and the taker 1 as its
    only deed, and the methods seen(kept) and enter(offer).
    """

    def assert_refused(self, error, act):
        return refused(self, error, self.kept, self.seen, act)

    def assert_one_deed(self):
        """What was refused is not there to be undone, and has taken no number."""
        self.assertEqual(self.enter((3, ((1,),))), 2)
        self.kept.undo()
        self.kept.undo()
        self.assertEqual(self.kept.places(), ())
        self.assert_refused(NothingToUndo, lambda: self.kept.undo())

    def test_offers_of_another_size(self):
        for offer in (choose(2, 1), choose(4, 1), choose(4, 4), (0, ((),)), (4, ((0, 2), (1,)))):
            self.assert_refused(WrongSize, lambda: self.enter(offer))
        self.assert_one_deed()

    def test_rough_offers(self):
        for offer in (WAYS, (3, ((0,), (1, 2))), (3, ((0, 1), (2,)))):
            error = self.assert_refused(RoughOffer, lambda: self.enter(offer))
            self.assertEqual(error.fault, faults_by_words(offer)[0])
        self.assert_one_deed()

    def test_unknown_takers(self):
        for number in (0, 2, -1, GREAT):
            error = self.assert_refused(UnknownTaker, lambda: self.kept.leave(number))
            self.assertEqual(error.number, number)
        self.assert_one_deed()

    def test_takers_who_have_left_are_unknown(self):
        self.kept.leave(1)
        self.assertEqual(self.assert_refused(UnknownTaker, lambda: self.kept.leave(1)).number, 1)

    def test_undone_takers_are_unknown(self):
        self.kept.undo()
        self.assertEqual(self.assert_refused(UnknownTaker, lambda: self.kept.leave(1)).number, 1)

    def test_the_next_number_behind_undoing(self):
        self.assertEqual(self.enter((3, ((1,),))), 2)
        self.kept.undo()
        self.assertEqual(self.enter((3, ((2,),))), 2)
        self.kept.leave(2)
        self.kept.undo()
        self.assertEqual([number for number, _ in self.kept.places()], [1, 2])
        self.kept.leave(1)
        self.assertEqual(self.enter((3, ((0,),))), 3)

import unittest
from itertools import combinations, product

from takersrest.builders import choose
from takersrest.clashes import clash
from takersrest.games import choices, make_game
from takersrest.growth import grow
from takersrest.rings import is_ring, joint_gain, round_game
from tests.helpers import (
    all_offers, changed_choice, choices_of, is_rest_by_words, is_smooth_by_words, pay_by_words, random_costs,
    random_game, random_numbers,
)

WAYS = (3, ((0, 2), (1,)))


def is_step_by_words(game, choice, reached):
    """Whether one taker takes another lot and pays less than before."""
    return any(
        lot != choice[taker]
        and reached == changed_choice(choice, taker, lot)
        and pay_by_words(game, reached, taker) < pay_by_words(game, choice, taker)
        for taker in range(len(game)) for lot in game[taker][0][1]
    )


def is_ring_by_words(game, ring):
    steps = list(zip(ring, ring[1:])) + [(ring[-1], ring[0])] if ring else []
    return len(ring) >= 3 and all(is_step_by_words(game, choice, reached) for choice, reached in steps)


def changed_together(choice, takers, lots):
    for taker, lot in zip(takers, lots):
        choice = changed_choice(choice, taker, lot)
    return choice


def is_joint_gain_by_words(game, choice, takers, lots):
    reached = changed_together(choice, takers, lots)
    return len(takers) > 0 and all(pay_by_words(game, reached, at) < pay_by_words(game, choice, at) for at in takers)


def has_joint_gain_by_words(game, choice):
    """All groups of takers and all lots tried."""
    groups = [group for many in range(1, len(game) + 1) for group in combinations(range(len(game)), many)]
    return any(
        is_joint_gain_by_words(game, choice, group, lots)
        for group in groups for lots in product(*[game[taker][0][1] for taker in group])
    )


class RoundGame(unittest.TestCase):
    def test_as_told(self):
        found = round_game()
        self.assertIs(type(found), tuple)
        game, ring = found
        self.assertIs(type(game), tuple)
        self.assertIs(type(ring), tuple)
        self.assertLessEqual(len(game), 4)
        self.assertLessEqual(len(choices_of(game)), 2000)
        self.assertLessEqual(len(ring), 12)
        size = game[0][0][0]
        self.assertLessEqual(size, 6)
        for offer, costs in game:
            self.assertEqual(offer[0], size)
            self.assertTrue(is_smooth_by_words(offer))
            self.assertEqual(len(costs), size)
            for row in costs:
                self.assertIs(type(row), tuple)
                self.assertGreaterEqual(len(row), len(game))
                self.assertLessEqual(len(row), 40)
                self.assertEqual(list(row), sorted(row))
        self.assertEqual(make_game(game), game)

    def test_its_ring(self):
        game, ring = round_game()
        for choice in ring:
            self.assertIn(choice, choices_of(game))
        self.assertTrue(is_ring_by_words(game, ring))
        self.assertIs(is_ring(game, ring), True)

    def test_it_has_a_rest(self):
        game, _ = round_game()
        self.assertTrue(is_rest_by_words(game, grow(game)[0]))


class IsRing(unittest.TestCase):
    def setUp(self):
        self.game, self.ring = round_game()

    def test_turned(self):
        for at in range(len(self.ring)):
            self.assertIs(is_ring(self.game, self.ring[at:] + self.ring[:at]), True)

    def test_twice_round(self):
        self.assertIs(is_ring(self.game, self.ring * 2), True)

    def test_backwards(self):
        self.assertIs(is_ring(self.game, self.ring[::-1]), False)

    def test_short_ones(self):
        self.assertIs(is_ring(self.game, ()), False)
        for choice in self.ring:
            self.assertIs(is_ring(self.game, (choice,)), False)
        self.assertIs(is_ring(self.game, self.ring[:2]), False)

    def test_two_choices_are_no_ring(self):
        for first in choices_of(self.game):
            for second in choices_of(self.game):
                self.assertIs(is_ring(self.game, (first, second)), False)

    def test_each_left_out(self):
        for at in range(len(self.ring)):
            self.assertIs(is_ring(self.game, self.ring[:at] + self.ring[at + 1:]), False)

    def test_a_choice_twice_in_a_row(self):
        for at in range(len(self.ring)):
            self.assertIs(is_ring(self.game, self.ring[:at] + self.ring[at:at + 1] + self.ring[at:]), False)
        self.assertIs(is_ring(self.game, self.ring[:1] * 3), False)

    def test_the_step_from_the_last_to_the_first(self):
        # All steps but the last one pay off.
        game = make_game([(choose(4, 1), ((4,), (3,), (2,), (1,)))])
        self.assertIs(is_ring(game, (((0,),), ((1,),), ((2,),), ((3,),))), False)
        self.assertIs(is_ring(game, (((2,),), ((3,),), ((0,),), ((1,),))), False)

    def test_a_step_of_two_takers(self):
        # In the step from the last choice to the first one two takers move, and both pay less.
        game = make_game([
            (choose(3, 2), ((2, 2, 4), (3, 3, 4), (0, 3, 4))), (choose(3, 2), ((1, 3, 5), (1, 3, 5), (2, 4, 5))),
            (choose(3, 1), ((2, 5, 5), (0, 3, 5), (0, 1, 4))),
        ])
        ring = (((1, 2), (0, 1), (1,)), ((1, 2), (0, 2), (1,)), ((0, 2), (0, 2), (1,)))
        for at, choice in enumerate(ring):
            movers = [taker for taker in range(3) if ring[at - 1][taker] != choice[taker]]
            self.assertEqual(len(movers), 2 if at == 0 else 1)
            for taker in movers:
                self.assertLess(pay_by_words(game, choice, taker), pay_by_words(game, ring[at - 1], taker))
            self.assertIs(is_ring(game, ring[at:] + ring[:at]), False)

    def test_a_step_that_pays_the_same_or_more(self):
        for costs in (((1,), (1,), (1,)), ((1,), (2,), (3,)), ((3,), (2,), (1,))):
            game = make_game([(choose(3, 1), costs)])
            self.assertIs(is_ring(game, (((0,),), ((1,),), ((2,),))), False)

    def test_without_takers(self):
        for many in range(5):
            self.assertIs(is_ring((), ((),) * many), False)

    def test_by_words(self):
        draw = random_numbers(36)
        verdicts = []
        for _ in range(400):
            game = self.game if draw(2) else random_game(draw, [choose(3, 1)], 3, 3)
            ring = self.ring
            for _ in range(draw(3)):
                at = draw(len(ring))
                lot = choose(3, 1)[1][draw(3)]
                ring = ring[:at] + (changed_choice(ring[at], draw(3), lot),) + ring[at + 1:]
            verdicts.append(is_ring(game, ring))
            self.assertIs(verdicts[-1], is_ring_by_words(game, ring))
        self.assertGreater(verdicts.count(True), 20)
        self.assertGreater(verdicts.count(False), 20)

    def test_all_of_three_and_four_choices(self):
        for game in (
            make_game([(choose(2, 1), ((2, 2), (1, 1))), (choose(2, 1), ((1, 9), (2, 9)))]),
            make_game([(WAYS, ((1, 4), (3, 3), (1, 1))), (WAYS, ((0, 9), (2, 5), (1, 1)))]),
        ):
            for many in (3, 4):
                for ring in product(choices_of(game), repeat=many):
                    self.assertIs(is_ring(game, ring), is_ring_by_words(game, ring))

    def test_a_ring_of_four(self):
        # In a clash somebody gains in each of the four choices.
        game, _ = clash(WAYS)
        rings = [ring for ring in product(choices_of(game), repeat=4) if is_ring_by_words(game, ring)]
        self.assertGreater(len(rings), 0)
        for ring in rings:
            self.assertIs(is_ring(game, ring), True)

    def test_there_are_no_rings_of_three(self):
        # Whoever moves has to come back: in three steps this could be one taker only, who pays less each time.
        draw = random_numbers(35)
        for _ in range(5):
            game = random_game(draw, [choose(3, 1), choose(3, 2)], 2, 2)
            for ring in product(choices_of(game), repeat=3):
                self.assertIs(is_ring(game, ring), False)

    def test_no_ring_with_costs_alike(self):
        draw = random_numbers(37)
        for _ in range(5):
            costs = random_costs(draw, 3, 3, -3, 3)
            game = make_game([(choose(3, 1), costs)] * 3)
            self.assertIs(is_ring(game, self.ring), False)


class JointGain(unittest.TestCase):
    def assert_joint_gain(self, game, choice):
        """Judge what is told by all groups of takers and all lots; returns whether there is a joint gain."""
        found = joint_gain(game, choice)
        self.assertIs(found is not None, has_joint_gain_by_words(game, choice))
        if found is None:
            return False
        self.assertIs(type(found), tuple)
        takers, lots = found
        self.assertIs(type(takers), tuple)
        self.assertIs(type(lots), tuple)
        self.assertEqual(len(takers), len(lots))
        self.assertEqual(list(takers), sorted(set(takers)))
        for taker, lot in zip(takers, lots):
            self.assertIn(taker, range(len(game)))
            self.assertIn(lot, game[taker][0][1])
        self.assertTrue(is_joint_gain_by_words(game, choice, takers, lots))
        return True

    def test_no_takers(self):
        self.assertIsNone(joint_gain((), ()))

    def test_one_taker(self):
        game = make_game([(choose(3, 1), ((3,), (1,), (1,)))])
        self.assertIsNone(joint_gain(game, ((1,),)))
        self.assertIsNone(joint_gain(game, ((2,),)))
        self.assertIn(joint_gain(game, ((0,),)), (((0,), ((1,),)), ((0,), ((2,),))))

    def test_equal_pays_are_no_gain(self):
        game = make_game([(choose(2, 1), ((1, 1), (1, 1)))] * 2)
        for choice in choices_of(game):
            self.assertIsNone(joint_gain(game, choice))
        # The first one would pay less, but the second one has no reason to give way.
        game = make_game([(choose(2, 1), ((1, 5), (4, 5))), (choose(2, 1), ((2, 9), (2, 9)))])
        self.assertIsNone(joint_gain(game, ((1,), (0,))))

    def test_only_together(self):
        # Each one has what the other one wants; alone nobody gains.
        game = make_game([(choose(2, 1), ((1, 5), (4, 4))), (choose(2, 1), ((4, 4), (1, 5)))])
        choice = ((1,), (0,))
        self.assertTrue(is_rest_by_words(game, choice))
        self.assertEqual(joint_gain(game, choice), ((0, 1), ((0,), (1,))))

    def test_takers_in_ascending_order(self):
        # In a row of three each one wants what the next one has.
        rows = {0: (1, 9, 9), 1: (5, 5, 5), 2: (9, 9, 9)}
        game = make_game([
            (choose(3, 1), tuple(rows[(thing - taker - 1) % 3] for thing in range(3))) for taker in range(3)
        ])
        choice = ((2,), (0,), (1,))
        self.assertIn(joint_gain(game, choice), [((0, 1, 2), ((1,), (2,), (0,)))])

    def test_some_stay_as_they_are(self):
        swap = ((1, 5, 9), (4, 4, 9), (9, 9, 9)), ((9, 9, 9), (9, 9, 9), (1, 1, 1)), ((4, 4, 9), (1, 5, 9), (9, 9, 9))
        game = make_game([(choose(3, 1), costs) for costs in swap])
        self.assertEqual(joint_gain(game, ((1,), (2,), (0,))), ((0, 2), ((0,), (1,))))

    def test_costs_alike_and_lots_of_one_thing(self):
        draw = random_numbers(38)
        for takers in (1, 2, 3):
            for _ in range(4):
                costs = random_costs(draw, 3, takers, -3, 5)
                game = make_game([(choose(3, 1), costs) for _ in range(takers)])
                for choice in choices_of(game):
                    self.assertIs(self.assert_joint_gain(game, choice), not is_rest_by_words(game, choice))

    def test_by_words(self):
        draw = random_numbers(39)
        verdicts = []
        at_rest = 0
        for size in (2, 3):
            offers = [offer for offer in all_offers(size) if len(offer[1]) < 4]
            for takers in (1, 2, 3):
                for least, most in ((0, 3), (-9, 9)):
                    for _ in range(4):
                        game = random_game(draw, offers, takers, takers, least, most)
                        for choice in choices_of(game):
                            verdicts.append(self.assert_joint_gain(game, choice))
                            at_rest += verdicts[-1] and is_rest_by_words(game, choice)
        self.assertGreater(verdicts.count(True), 50)
        self.assertGreater(verdicts.count(False), 50)
        self.assertGreater(at_rest, 0)

    def test_great_costs(self):
        great = 10 ** 4000
        game = make_game([(choose(2, 1), ((great, great + 2), (great + 1, great + 1)))] * 2)
        self.assertIsNone(joint_gain(game, ((0,), (1,))))
        self.assertIsNotNone(joint_gain(game, ((0,), (0,))))

    def test_many_choices(self):
        draw = random_numbers(40)
        game = random_game(draw, [choose(12, 1)], 3, 40)
        self.assertEqual(len(choices(game)), 1728)
        choice = grow(game)[0]
        found = joint_gain(game, choice)
        self.assertTrue(found is None or is_joint_gain_by_words(game, choice, *found))


if __name__ == "__main__":
    unittest.main()

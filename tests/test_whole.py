"""What points 1 to 3 promise over the whole program."""

import copy
import importlib
import unittest

from takersrest.builders import choose, parts, trees
from takersrest.clashes import clash, heavy_clash, tight
from takersrest.deal import Deal
from takersrest.errors import TakersrestError
from takersrest.growth import grow
from takersrest.hall import Hall
from takersrest.market import Market
from takersrest.rings import round_game
from takersrest.writing import write_game
from tests.test_form import CLASSES, INTERFACE

WAYS = (3, ((0, 2), (1,)))
ROADS = ((0, 1), (1, 2), (0, 2), (2, 3), (3, 0))
TWO = choose(4, 2)
NET = trees(3, ((0, 1), (1, 2), (0, 2), (0, 1)))
TABLE = ((-1, 4, 9), (0, 0, 0), (10 ** 70, 10 ** 70, 10 ** 71), (2, 2, 3))
LISTS = [[0, 3, 3], [1, 1, 1], [-5, 0, 10 ** 70]]
ROWS = tuple(tuple(row) for row in LISTS)
TAKERS = [(TWO, TABLE), (NET, TABLE), (choose(4, 1), ((3, 3, 3),) * 4)]
GAME = tuple(TAKERS)
CHOICE = ((0, 2), (1, 2), (3,))
ALIKE = ((TWO, TABLE), (NET, TABLE))
PAIR = ((0, 1), (1, 3))
HEAVY_TAKERS = [(TWO, 1), (choose(4, 1), 2)]
HEAVY = (TABLE, tuple(HEAVY_TAKERS))
HEAVY_CHOICE = ((0, 1), (0,))
PRICES = (5, -2, 10 ** 70, 5)
FULL = (3, ((0, 1, 2),))

# For each function of the interface some arguments, among them some for which an error is told.
CALLS = {
    "make_offer": [(4, [[3, 1], [0], [1, 3, 3]]), (4, ((3, 1), [2, 0])), (2, []), (2, [[0], [5]]), (3, [[0, 1], [1]])],
    "is_free": [(WAYS, (2,)), (WAYS, (0, 1))],
    "rank": [(WAYS, (0, 1)), (TWO, ())],
    "cut": [(WAYS, 1), (TWO, 0)],
    "opposite": [(WAYS,), (TWO,)],
    "first_fault": [(WAYS,), (TWO,)],
    "is_smooth": [(WAYS,), (TWO,)],
    "choose": [(4, 2), (0, 0)],
    "parts": [(((2, 1), (3, 2)),), ((),)],
    "beside": [(WAYS, TWO), (TWO, TWO)],
    "renamed": [(WAYS, (4, 0, 2), 5)],
    "trees": [(4, ROADS), (5, ROADS)],
    "ways": [(4, ROADS, 0, 2), (5, ROADS, 0, 4)],
    "pairings": [(4, ROADS), (3, ROADS[:3])],
    "columns": [(((1, 2, 3), (2, 4, 10 ** 70)), 3), ((), 2)],
    "seats": [(3, ((0, 1), (1,), ())), (2, ())],
    "circuits": [(WAYS,), (TWO,)],
    "span": [(WAYS, (0,)), (TWO, (0, 1))],
    "without": [(WAYS, 1), (TWO, 0)],
    "holding": [(WAYS, 1), (TWO, 0)],
    "from_circuits": [(3, ((0, 1), (1, 2))), (2, ())],
    "circuit_fault": [(WAYS,), (TWO,)],
    "pieces": [(TWO,), (parts(((2, 1), (1, 0))),)],
    "piece_offer": [(TWO, (0, 1, 2, 3)), (parts(((2, 1), (1, 0))), (0, 1))],
    "way_lines": [(4, ROADS, 0, 2), (5, ROADS, 0, 4)],
    "pair_mates": [(4, ROADS), (3, ROADS[:3])],
    "price": [((0, 2), PRICES)],
    "cheapest": [(TWO, PRICES)],
    "best_exchange": [(TWO, (0, 2), PRICES), (TWO, (0, 1), (0, 0, 0, 0))],
    "greedy_lot": [(TWO, PRICES), (WAYS, (1, 2, 3))],
    "trap": [(WAYS,), (TWO,)],
    "swap": [(TWO, (0, 1), (2, 3), 0)],
    "partners_of": [(TWO, (0, 1), (2, 3))],
    "cheapest_offer": [(TWO, PRICES)],
    "together": [(TWO, NET)],
    "spare": [(TWO, NET)],
    "make_costs": [(LISTS, 3), (tuple(LISTS), 3), (LISTS, 2), ([[1, 0]], 2)],
    "straight_costs": [(((1, 2), (0, 10 ** 70)), 3)],
    "make_game": [(TAKERS,), (GAME,), ([(WAYS, ROWS[:2])],), ([(WAYS, ())],), (TAKERS * 2,), ([],)],
    "loads": [(GAME, CHOICE), ((), ())],
    "pay": [(GAME, CHOICE, 1)],
    "own_prices": [(GAME, CHOICE, 1)],
    "best_lot": [(GAME, CHOICE, 1)],
    "gain": [(GAME, CHOICE, 0)],
    "first_gain": [(GAME, CHOICE), ((), ())],
    "single_gain": [(GAME, CHOICE), ((), ())],
    "is_rest": [(GAME, CHOICE), ((), ())],
    "choices": [(GAME,), ((),)],
    "rests": [(GAME,), ((),)],
    "replay": [(GAME, grow(GAME)[1]), (GAME, ((0, None, 0), (0, None, 0)))],
    "grow": [(GAME,), ((),), (((WAYS, ROWS),),)],
    "tight": [(WAYS,), (TWO,)],
    "judge_tight": [(WAYS, tight(WAYS)), (WAYS, (0, 1, 2, (0,), (1, 2)))],
    "clash": [(WAYS,), (TWO,)],
    "heavy_clash": [(WAYS,), (TWO,)],
    "judge_clash": [(WAYS,) + clash(WAYS), (WAYS, GAME, ((0, 1), (2, 3)))],
    "judge_heavy_clash": [(WAYS,) + heavy_clash(WAYS), (WAYS, HEAVY, ((0, 1), (2, 3)))],
    "make_heavy": [(TABLE, HEAVY_TAKERS), (TABLE, HEAVY[1]), (TABLE, [(WAYS, 1)]), (TABLE, [(TWO, 0)]), (TABLE, [(TWO, 9)])],
    "heavy_loads": [(HEAVY, HEAVY_CHOICE)],
    "heavy_pay": [(HEAVY, HEAVY_CHOICE, 1)],
    "heavy_prices": [(HEAVY, HEAVY_CHOICE, 1)],
    "heavy_best_lot": [(HEAVY, HEAVY_CHOICE, 1)],
    "heavy_gain": [(HEAVY, HEAVY_CHOICE, 1)],
    "heavy_first_gain": [(HEAVY, HEAVY_CHOICE)],
    "heavy_is_rest": [(HEAVY, HEAVY_CHOICE)],
    "heavy_choices": [(HEAVY,)],
    "heavy_rests": [(HEAVY,)],
    "cost_row": [(HEAVY, HEAVY_CHOICE)],
    "heavy_settle": [(HEAVY, HEAVY_CHOICE), ((ROWS, ((WAYS, 1),)), ((1,),))],
    "are_alike": [(GAME,), (ALIKE,), ((),)],
    "crowd_sum": [(GAME, CHOICE), (ALIKE, PAIR)],
    "settle": [(GAME, CHOICE), (ALIKE, PAIR)],
    "tolled": [(TABLE,), (((1, 1), (5, 5)),), (((0, 9, 9, 9),),), (((-9, 1, 1),),), (((1, 2, 2),),)],
    "total": [(GAME, CHOICE)],
    "least_total": [(GAME,)],
    "dear_game": [()],
    "better_choice": [(ALIKE, PAIR), (GAME, CHOICE), (((WAYS, ((1,), (2,), (3,))),), ((1,),))],
    "best_choice": [(ALIKE,), (GAME,)],
    "posted_prices": [(ALIKE, PAIR), (ALIKE, ((1, 3), (1, 3))), (GAME, CHOICE)],
    "judge_posted": [(ALIKE, PAIR, PRICES), (GAME, CHOICE, PRICES)],
    "apart": [((TWO, NET), 1), ((TWO, NET), 10 ** 70), ((FULL, FULL), 1)],
    "bar": [((TWO, NET), 1), ((FULL, FULL), 1)],
    "round_game": [()],
    "is_ring": [round_game(), (GAME, (CHOICE, CHOICE, CHOICE)), (GAME, ())],
    "joint_gain": [(GAME, CHOICE), ((), ())],
    "write_game": [(GAME[2:],), ((),)],
    "write_log": [(grow(GAME)[1],), ((),)],
    "read_game": [(write_game(GAME[2:]),), ("size 1\nroom 1\n",), ("size",)],
    "read_log": [("0 adds 3\n1 puts 2 for 0\n",), ("",), ("0 adds",)],
}


def told(function, arguments):
    """What the function returns, or the error that it raises, in a form that can be compared."""
    try:
        return function(*arguments)
    except TakersrestError as error:
        return type(error).__name__, sorted(vars(error).items())


def is_plain(value):
    """Whether the value consists of tuples, integers, strings, True, False and None."""
    if type(value) is tuple:
        return all(is_plain(part) for part in value)
    return value is None or type(value) in (int, str, bool)


def functions():
    found = {}
    for name, signatures in INTERFACE.items():
        module = importlib.import_module("takersrest." + name)
        for signature in signatures:
            called = signature.partition("(")[0]
            found[called] = getattr(module, called)
    return found


class Functions(unittest.TestCase):
    def test_each_one_is_called_here(self):
        self.assertEqual(sorted(CALLS), sorted(functions()))

    def test_what_is_passed_stays_as_it_was(self):
        for name, function in functions().items():
            for arguments in CALLS[name]:
                with self.subTest(name=name, arguments=arguments):
                    before = copy.deepcopy(arguments)
                    told(function, arguments)
                    self.assertEqual(arguments, before)

    def test_what_is_returned_is_plain(self):
        for name, function in functions().items():
            for arguments in CALLS[name]:
                with self.subTest(name=name, arguments=arguments):
                    try:
                        found = function(*arguments)
                    except TakersrestError:
                        continue
                    self.assertTrue(is_plain(found))

    def test_asked_again_they_tell_the_same(self):
        calls = [(name, arguments) for name in CALLS for arguments in CALLS[name]]
        known = functions()
        first = [told(known[name], arguments) for name, arguments in calls]
        again = [told(known[name], arguments) for name, arguments in reversed(calls)]
        self.assertEqual(first, again[::-1])

    def test_what_was_returned_does_not_change(self):
        # A list that was passed is free to change afterwards.
        known = functions()
        lots, rows, takers, heavy = [[1, 0], [2]], [[1, 2], [3, 4]], list(TAKERS), list(HEAVY_TAKERS)
        found = [
            known["make_offer"](3, lots), known["make_costs"](rows, 2), known["make_game"](takers),
            known["make_heavy"](TABLE, heavy),
        ]
        before = copy.deepcopy(found)
        for passed in (lots[0], lots, rows[0], rows, takers, heavy):
            passed.clear()
        self.assertEqual(found, before)


class Objects(unittest.TestCase):
    def deeds(self):
        """Deeds of a hall, a market and a deal, each as an object, the name of a method and its arguments."""
        hall, market, deal = Hall(4, 3), Market(TABLE, 3), Deal(4, 2)
        found = []
        for _ in range(2):
            for offer, costs in TAKERS:
                found += [(hall, "enter", (offer, costs)), (market, "enter", (offer,)), (deal, "enter", (offer,))]
            found += [(hall, "change", (1, TABLE)), (hall, "change", (9, TABLE)), (hall, "change", (1, ()))]
            for owner in (hall, market, deal):
                found += [
                    (owner, "enter", ((3, WAYS[1]),) + ((TABLE,) if owner is hall else ())), (owner, "leave", (2,)),
                    (owner, "undo", ()), (owner, "leave", (7,)), (owner, "leave", (1,)), (owner, "undo", ()),
                    (owner, "undo", ()), (owner, "places", ()),
                ]
            found += [(hall, "game", ()), (hall, "loads", ()), (market, "game", ()), (market, "prices", ())]
            found += [(market, "loads", ()), (market, "crowd", ()), (deal, "free_places", ())]
        return found

    def test_each_method_is_called_here(self):
        called = {(type(owner).__name__, name) for owner, name, _ in self.deeds()}
        listed = {
            (kind.partition(".")[2], signature.partition("(")[0])
            for kind, signatures in CLASSES.items() for signature in signatures
        }
        self.assertEqual(called, {pair for pair in listed if pair[1] != "__init__"})

    def test_what_is_passed_stays_and_what_is_returned_is_plain(self):
        for owner, name, arguments in self.deeds():
            before = copy.deepcopy(arguments)
            found = told(getattr(owner, name), arguments)
            self.assertEqual(arguments, before)
            self.assertTrue(is_plain(found) or type(found[0]) is str)

    def test_the_same_deeds_tell_the_same(self):
        # Each object of the second row has its deeds alone, those of the first row one beside the other.
        beside = [told(getattr(owner, name), arguments) for owner, name, arguments in self.deeds()]
        rows = self.deeds()
        alone = {}
        for kind in (Deal, Market, Hall):
            for at, (owner, name, arguments) in enumerate(rows):
                if type(owner) is kind:
                    alone[at] = told(getattr(owner, name), arguments)
        self.assertEqual(beside, [alone[at] for at in range(len(rows))])


if __name__ == "__main__":
    unittest.main()

import unittest

from takersrest.builders import choose
from takersrest.growth import grow
from takersrest.writing import write_game, write_log
from tests.helpers import all_offers, random_game, random_numbers
from tests.texts import game_text, log_text, some_games

MOST = 10 ** 60 - 1


class WriteGame(unittest.TestCase):
    def test_the_example(self):
        game = (((2, ((0,), (1,))), ((1, 4), (0, 9))),)
        self.assertEqual(write_game(game), "size 2\nroom 2\ntaker\nlot 0\nlot 1\ncosts 1 4\ncosts 0 9\n")

    def test_no_takers(self):
        self.assertEqual(write_game(()), "size 0\nroom 0\n")

    def test_takers_without_things(self):
        taker = ((0, ((),)), ())
        self.assertEqual(write_game((taker,)), "size 0\nroom 1\ntaker\nlot\n")
        self.assertEqual(write_game((taker,) * 3), "size 0\nroom 3\n" + "taker\nlot\n" * 3)

    def test_empty_lots(self):
        game = (((1, ((),)), ((5, 6),)), ((1, ((0,),)), ((-7, 0),)))
        self.assertEqual(write_game(game), "size 1\nroom 2\ntaker\nlot\ncosts 5 6\ntaker\nlot 0\ncosts -7 0\n")

    def test_a_room_greater_than_the_number_of_takers(self):
        game = ((choose(2, 2), ((1, 2, 3), (4, 5, 6))),)
        self.assertEqual(write_game(game), "size 2\nroom 3\ntaker\nlot 0 1\ncosts 1 2 3\ncosts 4 5 6\n")

    def test_great_and_negative_integers(self):
        game = (((1, ((0,),)), ((-MOST, MOST),)),)
        digits = "9" * 60
        self.assertEqual(write_game(game), f"size 1\nroom 2\ntaker\nlot 0\ncosts -{digits} {digits}\n")

    def test_by_words(self):
        draw = random_numbers(32)
        for game in some_games(draw, [all_offers(size) for size in range(4)]):
            self.assertEqual(write_game(game), game_text(game))

    def test_many_things(self):
        game = ((choose(12, 2), ((0,) * 40,) * 12),) * 2
        self.assertEqual(write_game(game), game_text(game))


class WriteLog(unittest.TestCase):
    def test_the_empty_log(self):
        self.assertEqual(write_log(()), "")

    def test_both_forms(self):
        self.assertEqual(write_log(((0, None, 7),)), "0 adds 7\n")
        self.assertEqual(write_log(((3, 5, 7),)), "3 puts 7 for 5\n")
        self.assertEqual(write_log(((3, 0, 0), (0, None, 0))), "3 puts 0 for 0\n0 adds 0\n")

    def test_great_integers(self):
        digits = "9" * 60
        self.assertEqual(write_log(((MOST, None, MOST),)), f"{digits} adds {digits}\n")
        self.assertEqual(write_log(((MOST, MOST, MOST),)), f"{digits} puts {digits} for {digits}\n")

    def test_logs_of_grow(self):
        draw = random_numbers(46)
        for _ in range(10):
            log = grow(random_game(draw, [choose(4, 1), choose(4, 2)], 4, 4))[1]
            self.assertEqual(write_log(log), log_text(log))

    def test_many_moves(self):
        log = tuple((at, None if at % 2 else at + 1, at * at) for at in range(600))
        self.assertEqual(write_log(log), log_text(log))


if __name__ == "__main__":
    unittest.main()

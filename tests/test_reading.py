import unittest

from takersrest.builders import choose
from takersrest.errors import BadLine, BadText
from takersrest.games import make_game
from takersrest.growth import grow, replay
from takersrest.reading import read_game, read_log
from takersrest.writing import write_game, write_log
from tests.helpers import all_offers, random_game, random_numbers
from tests.texts import GAME_LINE, LOG_LINE, first_bad_line, game_text, log_text, some_games, told_game

GOOD = "size 2\nroom 2\ntaker\nlot 0\nlot 1\ncosts 1 4\ncosts 0 9\n"
DIGITS = "9" * 60


def is_of_tuples(value):
    return type(value) is int or type(value) is tuple and all(is_of_tuples(part) for part in value)


def edits(text, signs):
    """All texts that come of the text by leaving out, doubling, replacing or putting in one sign."""
    found = []
    for at in range(len(text) + 1):
        found += [text[:at] + sign + text[at:] for sign in signs]
        if at < len(text):
            found += [text[:at] + text[at + 1:]] + [text[:at] + sign + text[at + 1:] for sign in signs]
    return found


class Reader(unittest.TestCase):
    def assert_bad_line(self, read, text, number):
        with self.assertRaises(BadLine) as caught:
            read(text)
        self.assertEqual(caught.exception.line, number, repr(text))


class ReadGame(Reader):
    def assert_bad_text(self, text):
        self.assertIsNone(first_bad_line(text, GAME_LINE))
        with self.assertRaises(BadText, msg=repr(text)):
            read_game(text)

    def assert_as_told(self, text):
        """Judge what is told of any text by the words of points 32 and 33; returns what is told."""
        number = 1 if text == "" else first_bad_line(text, GAME_LINE)
        if number is not None:
            self.assert_bad_line(read_game, text, number)
            return "line"
        game = told_game(text)
        if game is None:
            self.assert_bad_text(text)
            return "text"
        self.assertEqual(read_game(text), game)
        return "game"

    def test_the_example(self):
        self.assertEqual(read_game(GOOD), (((2, ((0,), (1,))), ((1, 4), (0, 9))),))

    def test_what_was_written_is_read(self):
        draw = random_numbers(33)
        for game in some_games(draw, [all_offers(size) for size in range(4)]):
            found = read_game(write_game(game))
            self.assertEqual(found, game)
            self.assertTrue(is_of_tuples(found))
            self.assertEqual(make_game(found), found)
            self.assertEqual(write_game(found), game_text(game))

    def test_no_takers(self):
        self.assertEqual(read_game("size 0\nroom 0\n"), ())
        for size, room in ((0, 1), (1, 0), (1, 1), (0, int(DIGITS)), (int(DIGITS), 0)):
            self.assert_bad_text(f"size {size}\nroom {room}\n")

    def test_takers_without_things(self):
        for takers in (1, 2, 7, 1500):
            text = f"size 0\nroom {takers}\n" + "taker\nlot\n" * takers
            self.assertEqual(read_game(text), (((0, ((),)), ()),) * takers)
            for room in (0, takers - 1, takers + 1, 99999):
                self.assert_bad_text(f"size 0\nroom {room}\n" + "taker\nlot\n" * takers)
        self.assert_bad_text("size 0\nroom 1\ntaker\n")
        self.assert_bad_text("size 0\nroom 1\ntaker\nlot\nlot\n")
        self.assert_bad_text("size 0\nroom 1\ntaker\nlot 0\n")
        self.assert_bad_text("size 0\nroom 1\ntaker\nlot\ncosts\n")
        self.assert_bad_text("size 0\nroom 1\ntaker\nlot\ncosts 1\n")

    def test_empty_lots(self):
        self.assertEqual(read_game("size 1\nroom 1\ntaker\nlot\ncosts 5\n"), (((1, ((),)), ((5,),)),))

    def test_sixty_digits_and_one_more(self):
        taker = "taker\nlot 0\n"
        game = read_game(f"size 1\nroom 2\n{taker}costs -{DIGITS} {DIGITS}\n")
        self.assertEqual(game, (((1, ((0,),)), ((-int(DIGITS), int(DIGITS)),)),))
        self.assert_bad_line(read_game, f"size 1\nroom 2\n{taker}costs -{DIGITS}0 {DIGITS}\n", 5)
        self.assert_bad_line(read_game, f"size 1\nroom 2\n{taker}costs -{DIGITS} {DIGITS}0\n", 5)
        self.assert_bad_line(read_game, f"size 1{DIGITS}\nroom 2\n", 1)
        self.assert_bad_line(read_game, f"size 1\nroom 1{DIGITS}\n", 2)

    def test_lines_without_a_right_form(self):
        for line in (
            "", " ", "taker ", " taker", "taker 0", "taker taker", "Taker", "takers", "take", "lot ", " lot 0", "lot  0",
            "lot 0 ", "lot 0  1", "lot +1", "lot 01", "lot 00", "lot -0", "lot -01", "lot -", "lot --1", "lot a", "lot 0x1",
            "lot 1.0", "lot 1_0", "lot 1,2", "lots 0", "lo 0", "lot0", "costs ", "costs +1", "costs 1 -0", "costs 1  2",
            "cost 1", "costs 1 a", "costs 1 2 ", "size", "size ", "size 1 1", "size -1", "size -0", "size +1", "size 01",
            "size  1", "size a", "room", "room ", "room 1 1", "room -1", "room 00", "room 1 ", "Size 1", "row 1", "0", "-1",
            "costs 1" + "0" * 60, "lot 1" + "0" * 60, "size 1" + "0" * 60, "costs -1" + "0" * 60, "~", "%", "\\n", "#",
        ):
            lines = GOOD.split("\n")[:-1]
            for at in range(len(lines) + 1):
                for changed in (lines[:at] + [line] + lines[at:], lines[:at] + [line] + lines[at + 1:]):
                    text = "".join(row + "\n" for row in changed)
                    if changed:
                        self.assert_bad_line(read_game, text, at + 1)

    def test_the_first_bad_line_of_several(self):
        self.assert_bad_line(read_game, "lot 0\nsize 2\n\nroom 01\n", 3)
        self.assert_bad_line(read_game, "taker\ntaker\n\n\n", 3)
        self.assert_bad_line(read_game, "size 2\nroom +2\ntaker\nlot 00\ncosts", 2)
        self.assert_bad_line(read_game, "size 2\nroom 2\ntaker\nlot 00\ncosts", 4)

    def test_the_empty_text_and_texts_that_are_not_ended(self):
        self.assert_bad_line(read_game, "", 1)
        self.assert_bad_line(read_game, "\n", 1)
        self.assert_bad_line(read_game, "\n\n", 1)
        self.assert_bad_line(read_game, "size 0", 1)
        self.assert_bad_line(read_game, "size 0\nroom 0", 2)
        self.assert_bad_line(read_game, "size 0\nroom 0\n ", 3)
        self.assert_bad_line(read_game, GOOD[:-1], 7)
        self.assert_bad_line(read_game, GOOD + "taker", 8)
        self.assert_bad_line(read_game, GOOD + "\n", 8)
        self.assert_bad_line(read_game, "taker", 1)

    def test_lines_in_a_wrong_order(self):
        lines = GOOD.split("\n")[:-1]
        for first in range(len(lines)):
            for second in range(first):
                changed = list(lines)
                changed[first], changed[second] = changed[second], changed[first]
                self.assert_as_told("".join(line + "\n" for line in changed))
        for text in (
            "room 2\nsize 2\ntaker\nlot 0\nlot 1\ncosts 1 4\ncosts 0 9\n", "size 2\nroom 2\nlot 0\ntaker\ncosts 1 4\n",
            "size 2\nroom 2\ntaker\ncosts 1 4\ncosts 0 9\nlot 0\nlot 1\n",
            "size 2\nroom 2\ntaker\nlot 0\ncosts 1 4\nlot 1\ncosts 0 9\n",
            "taker\nsize 2\nroom 2\nlot 0\nlot 1\ncosts 1 4\ncosts 0 9\n",
            "size 2\ntaker\nroom 2\nlot 0\nlot 1\ncosts 1 4\ncosts 0 9\n",
        ):
            self.assert_bad_text(text)

    def test_a_line_too_few_too_many_or_twice(self):
        lines = GOOD.split("\n")[:-1]
        for at in range(len(lines)):
            if not lines[at].startswith("lot"):
                self.assert_bad_text("".join(line + "\n" for line in lines[:at] + lines[at + 1:]))
            self.assert_bad_text("".join(line + "\n" for line in lines[:at + 1] + lines[at:]))
        for line in lines + ["lot", "costs", "room 0", "size 0", "costs 1 4 5"]:
            self.assert_bad_text(GOOD + line + "\n")
        for text in ("size 2\n", "room 2\n", "taker\n", "lot\n", "costs\n", "lot 1 2\n"):
            self.assert_bad_text(text)

    def test_lots_that_are_none(self):
        for lots in (
            "", "lot 1\nlot 0\n", "lot 0\nlot 0\n", "lot 0\nlot 0 1\n", "lot\nlot 0\n", "lot 1 0\n", "lot 0 0\n", "lot 2\n",
            "lot 0 2\n", "lot -1\n", "lot -1 0\n", f"lot {DIGITS}\n", "lot 0 1\nlot 1\n",
        ):
            self.assert_bad_text(f"size 2\nroom 2\ntaker\n{lots}costs 1 4\ncosts 0 9\n")

    def test_rows_that_are_none(self):
        for rows in (
            "", "costs 1 4\n", "costs 1 4\ncosts 0 9\ncosts 0 9\n", "costs 1\ncosts 0 9\n", "costs 1 4\ncosts 0\n",
            "costs\ncosts\n", "costs 1 4\ncosts 0 9 9\n", "costs 1 4 5\ncosts 0 9 9\n", "costs 4 1\ncosts 0 9\n",
            "costs 1 4\ncosts 0 -1\n", "costs 1 4\n" * 3,
        ):
            self.assert_bad_text(f"size 2\nroom 2\ntaker\nlot 0\nlot 1\n{rows}")

    def test_rooms(self):
        taker = "taker\nlot 0\ncosts 1 4\n"
        self.assertEqual(len(read_game("size 1\nroom 2\n" + taker * 2)), 2)
        self.assertEqual(len(read_game("size 1\nroom 2\n" + taker)), 1)
        self.assert_bad_text("size 1\nroom 2\n" + taker * 3)
        self.assert_bad_text("size 1\nroom 0\ntaker\nlot 0\ncosts\n")
        self.assert_bad_text("size 1\nroom 1\n" + taker)
        self.assert_bad_text("size 1\nroom 3\n" + taker)
        self.assert_bad_text("size 1\nroom 2\n" + taker + "taker\nlot 0\ncosts 1 4 5\n")
        self.assert_bad_text(f"size 1\nroom {DIGITS}\n" + taker)

    def test_sizes(self):
        self.assert_bad_text("size 0\nroom 2\ntaker\nlot 0\ncosts 1 4\n")
        self.assert_bad_text("size 2\nroom 2\ntaker\nlot 0\ncosts 1 4\n")
        self.assert_bad_text(f"size {DIGITS}\nroom {DIGITS}\ntaker\nlot 0\ncosts 1 4\n")
        self.assert_bad_text(f"size {DIGITS}\nroom 1\ntaker\nlot {DIGITS[:-1]}8\ncosts 1\n")

    def test_by_words_all_single_edits(self):
        told = []
        for text in (GOOD, "size 0\nroom 1\ntaker\nlot\n", "size 1\nroom 1\ntaker\nlot\ncosts -10\n", "size 0\nroom 0\n"):
            told += [self.assert_as_told(changed) for changed in edits(text, "01-+ \nlt")]
        self.assertGreater(told.count("game"), 5)
        self.assertGreater(told.count("text"), 30)
        self.assertGreater(told.count("line"), 500)

    def test_by_words_rows_of_lines(self):
        draw = random_numbers(34)
        heads = ["size 0\nroom 0\n", "size 1\nroom 1\n", "size 1\nroom 2\n", "size 2\nroom 1\n", "size 0\nroom 1\n"]
        lines = ["taker", "taker", "lot", "lot 0", "lot 1", "lot 0 1", "costs", "costs 1", "costs 1 1", "costs 2", "lot 1"]
        told = []
        for _ in range(6000):
            text = heads[draw(5)] + "".join(lines[draw(len(lines))] + "\n" for _ in range(draw(6)))
            told.append(self.assert_as_told(text))
        self.assertGreater(told.count("game"), 30)

    def test_long_texts(self):
        # All within the bound of 20000 characters.
        lots = "".join(f"lot {thing}\n" for thing in range(900))
        costs = "costs 1\n" * 900
        game = read_game(f"size 900\nroom 1\ntaker\n{lots}{costs}")
        self.assertEqual(game, (((900, tuple((thing,) for thing in range(900))), ((1,),) * 900),))
        self.assert_bad_text(f"size 901\nroom 1\ntaker\n{lots}{costs}")
        pairs = "".join(f"lot {thing} {thing + 1}\n" for thing in range(899, 1600))
        self.assert_bad_text(f"size 1601\nroom 1\ntaker\n{lots}{pairs}")
        self.assert_bad_text("size 9\nroom 2\n" + "taker\n" * 3000)
        self.assert_bad_text("size 3000\nroom 0\ntaker\nlot\n" + "costs\n" * 3000)
        self.assert_bad_line(read_game, "\n" * 20000, 1)
        self.assert_bad_line(read_game, "taker\n" * 3000 + "9" * 2000, 3001)
        wide = " ".join(["7"] * 9000)
        self.assertEqual(read_game(f"size 1\nroom 9000\ntaker\nlot 0\ncosts {wide}\n")[0][1], ((7,) * 9000,))


class ReadLog(Reader):
    def test_the_empty_text(self):
        self.assertEqual(read_log(""), ())

    def test_both_forms(self):
        self.assertEqual(read_log("0 adds 7\n"), ((0, None, 7),))
        self.assertEqual(read_log("3 puts 7 for 5\n"), ((3, 5, 7),))
        self.assertEqual(read_log("3 puts 0 for 0\n0 adds 0\n"), ((3, 0, 0), (0, None, 0)))

    def test_great_integers(self):
        most = int(DIGITS)
        self.assertEqual(read_log(f"{DIGITS} adds {DIGITS}\n"), ((most, None, most),))
        self.assertEqual(read_log(f"{DIGITS} puts {DIGITS} for {DIGITS}\n"), ((most, most, most),))
        for line in (
            f"1{DIGITS} adds 1", f"1 adds 1{DIGITS}", f"1{DIGITS} puts 1 for 1", f"1 puts 1{DIGITS} for 1",
            f"1 puts 1 for 1{DIGITS}",
        ):
            self.assert_bad_line(read_log, line + "\n", 1)

    def test_lines_that_are_no_moves(self):
        for line in (
            "", " ", "adds", "0 adds", "adds 0", "0 adds ", " 0 adds 1", "0 adds 1 ", "0  adds 1", "0 adds  1", "0 add 1",
            "0 Adds 1", "0 adds 1 for 2", "0 adds 1 2", "0 puts 1", "0 puts 1 for", "0 puts 1 for ", "0 puts 1 for 2 ",
            "0 puts 1  for 2", "0 puts for 2", "puts 1 for 2", "0 put 1 for 2", "0 puts 1 four 2", "0 puts 1 for 2 3",
            "0 puts 1 adds 2", "0 for 1 puts 2", "-1 adds 1", "0 adds -1", "-0 adds 1", "+1 adds 1", "01 adds 1", "0 adds 00",
            "0 puts -1 for 2", "0 puts 1 for -2", "0 puts 01 for 2", "0 puts 1 for 02", "a adds 1", "0 adds a", "0 adds None",
            "0 puts 1 for None", "0 puts None for 1", "taker", "lot 0", "0", "0 1", "0 1 2", "0 adds 1.0", "0 adds 1_0",
        ):
            for before, number in (("", 1), ("0 adds 1\n", 2), ("0 adds 1\n2 puts 1 for 0\n", 3)):
                self.assert_bad_line(read_log, before + line + "\n", number)
                self.assert_bad_line(read_log, before + line + "\n0 adds 1\n", number)
                self.assert_bad_line(read_log, before + line + "\n0 adds 01\n\n", number)

    def test_a_last_line_that_is_not_ended(self):
        self.assert_bad_line(read_log, "0 adds 7", 1)
        self.assert_bad_line(read_log, "0 adds 7\n3 puts 7 for 5", 2)
        self.assert_bad_line(read_log, "0 adds 7\n ", 2)
        self.assert_bad_line(read_log, "0 adds 7\n\n", 2)
        self.assert_bad_line(read_log, "0 adds 07\n3 puts 7 for 5", 1)

    def test_by_words_all_single_edits(self):
        told = []
        for text in ("0 adds 10\n", "7 puts 1 for 10\n0 adds 0\n", "0 adds 1\n0 puts 1 for 0\n"):
            for changed in edits(text, "01-+ \nsf"):
                number = first_bad_line(changed, LOG_LINE)
                told.append(number is None)
                if number is None:
                    self.assertEqual(log_text(read_log(changed)), changed)
                else:
                    self.assert_bad_line(read_log, changed, number)
        self.assertGreater(told.count(True), 10)
        self.assertGreater(told.count(False), 500)

    def test_logs_of_grow(self):
        draw = random_numbers(46)
        for _ in range(10):
            game = random_game(draw, [choose(4, 1), choose(4, 2)], 4, 4)
            choice, log = grow(game)
            found = read_log(write_log(log))
            self.assertEqual(found, log)
            self.assertTrue(all(type(move) is tuple for move in found))
            self.assertEqual(replay(game, found), choice)

    def test_many_moves(self):
        log = tuple((at, None if at % 2 else at + 1, at * at) for at in range(600))
        self.assertEqual(read_log(write_log(log)), log)


if __name__ == "__main__":
    unittest.main()

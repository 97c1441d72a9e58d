"""Reading the texts of games and of logs."""

from takersrest.costs import make_costs
from takersrest.errors import BadLine, BadText, TakersrestError
from takersrest.games import make_game
from takersrest.offers import make_offer
from takersrest.writing import write_game

MOST_DIGITS = 60


def read_game(text):
    """Return the game whose text it is. Raises BadLine and BadText."""
    lines = _right_lines(text, _is_game_line)
    if len(lines) == 0:
        raise BadLine(1)
    game = _told_game([line.split(" ") for line in lines])
    # A game has just one text: so this also tells whether each line stands where it has to.
    if game is None or write_game(game) != text:
        raise BadText("this is the text of no game")
    return game


def read_log(text):
    """Return the log whose text it is. Raises BadLine."""
    return tuple([_told_move(line.split(" ")) for line in _right_lines(text, _is_move_line)])


def _right_lines(text, is_right):
    """Return the list of all lines. Raises BadLine with the first one that is not right or not ended."""
    lines = text.split("\n")
    not_ended = lines.pop()
    for number, line in enumerate(lines, start=1):
        if not is_right(line):
            raise BadLine(number)
    if not_ended != "":
        raise BadLine(len(lines) + 1)
    return lines


def _is_count(word):
    """Tell whether the word is the text of an integer of at least 0."""
    if not all(sign in "0123456789" for sign in word):
        return False
    return word == "0" or 0 < len(word) <= MOST_DIGITS and word[0] != "0"


def _is_integer(word):
    """Tell whether the word is the text of an integer."""
    return _is_count(word) or word.startswith("-") and word != "-0" and _is_count(word[1:])


def _is_game_line(line):
    """Tell whether the line has one of the forms of the lines of a game."""
    words = line.split(" ")
    numbers = words[1:]
    if words[0] == "taker":
        return len(numbers) == 0
    if words[0] in ("size", "room"):
        return len(numbers) == 1 and _is_count(numbers[0])
    return words[0] in ("lot", "costs") and all(_is_integer(word) for word in numbers)


def _told_game(lines):
    """Return the game that the words of the lines tell, or None if they tell none."""
    if len(lines) < 2 or lines[0][0] != "size" or lines[1][0] != "room":
        return None
    takers = []
    for words in lines[2:]:
        if words[0] == "taker":
            takers.append({"lot": [], "costs": []})
        elif len(takers) == 0 or words[0] not in takers[-1]:
            return None
        else:
            takers[-1][words[0]].append([int(word) for word in words[1:]])
    return _built_game(int(lines[0][1]), int(lines[1][1]), takers)


def _built_game(size, room, takers):
    try:
        return make_game([(make_offer(size, told["lot"]), make_costs(told["costs"], room)) for told in takers])
    except TakersrestError:
        return None


def _is_move_line(line):
    """Tell whether the line has one of the forms of a move."""
    words = line.split(" ")
    if len(words) not in (3, 5) or words[1::2] not in (["adds"], ["puts", "for"]):
        return False
    return all(_is_count(word) for word in words[::2])


def _told_move(words):
    """Return the move that the words tell."""
    numbers = [int(word) for word in words[::2]]
    return numbers[0], numbers[2] if len(numbers) > 2 else None, numbers[1]

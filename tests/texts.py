"""The texts of games and of logs, by the words of points 32, 33 and 46."""

import re

from tests.helpers import is_nested, random_costs

COUNT = r"(0|[1-9][0-9]{0,59})"
INTEGER = r"(0|-?[1-9][0-9]{0,59})"
GAME_LINE = re.compile(rf"(size|room) {COUNT}|taker|(lot|costs)( {INTEGER})*")
LOG_LINE = re.compile(rf"{COUNT} adds {COUNT}|{COUNT} puts {COUNT} for {COUNT}")


def game_text(game):
    text = f"size {game[0][0][0] if game else 0}\n"
    text += f"room {len(game[0][1][0]) if game and game[0][0][0] else len(game)}\n"
    for (_, lots), costs in game:
        text += "taker\n"
        for word, rows in (("lot", lots), ("costs", costs)):
            for row in rows:
                text += word
                for number in row:
                    text += f" {number}"
                text += "\n"
    return text


def log_text(log):
    text = ""
    for taker, out, into in log:
        text += f"{taker} adds {into}\n" if out is None else f"{taker} puts {into} for {out}\n"
    return text


def first_bad_line(text, form):
    """The number of the first line that does not have the form or is not ended, or None."""
    lines = text.split("\n")
    for number, line in enumerate(lines[:-1], start=1):
        if not form.fullmatch(line):
            return number
    return len(lines) if lines[-1] else None


def told_game(text):
    """The game whose text it is, or None; every line has a right form."""
    lines = [line.split(" ") for line in text.split("\n")[:-1]]
    if [line[0] for line in lines[:2]] != ["size", "room"]:
        return None
    size, room = int(lines[0][1]), int(lines[1][1])
    words = " ".join(line[0] for line in lines[2:])
    if not re.fullmatch(r"(taker( lot)+( costs)*( |$))*", words):
        return None
    takers = []
    for line in lines[2:]:
        if line[0] == "taker":
            takers.append(([], []))
        else:
            takers[-1][line[0] == "costs"].append(tuple(map(int, line[1:])))
    if not all(is_right_taker(size, room, lots, rows) for lots, rows in takers):
        return None
    if room < len(takers) or room != len(takers) and size == 0 or not takers and (size, room) != (0, 0):
        return None
    return tuple(((size, tuple(lots)), tuple(rows)) for lots, rows in takers)


def is_right_taker(size, room, lots, rows):
    return (
        lots == sorted(set(lots))
        and all(list(lot) == sorted(set(lot)) and all(0 <= thing < size for thing in lot) for lot in lots)
        and not is_nested(lots)
        and len(rows) == size
        and all(len(row) == room and list(row) == sorted(row) for row in rows)
    )


def some_games(draw, offers_by_size):
    """Games without takers, with equal rooms, with negative and with great costs."""
    games = [(), ((((0, ((),))), ()),), ((((0, ((),))), ()),) * 3]
    for size in (1, 2, 3):
        for takers in (1, 2, 3):
            for least, most in ((0, 9), (-12, 12), (-10 ** 60 + 1, 10 ** 60 - 1)):
                offers = offers_by_size[size]
                room = takers + draw(3)
                games.append(tuple(
                    (offers[draw(len(offers))], random_costs(draw, size, room, least, most)) for _ in range(takers)
                ))
    return games

"""The texts of games and of logs."""


def write_game(game):
    """Return the text of the game, whose rows all have the same number of entries."""
    lines = ["size " + str(_size_of(game)), "room " + str(_room_of(game))]
    for (_, lots), costs in game:
        lines.append("taker")
        lines.extend([_line("lot", lot) for lot in lots])
        lines.extend([_line("costs", row) for row in costs])
    return "".join([line + "\n" for line in lines])


def _size_of(game):
    return game[0][0][0] if len(game) > 0 else 0


def _room_of(game):
    # Without things there is no row that could tell the room.
    return len(game[0][1][0]) if _size_of(game) > 0 else len(game)


def _line(word, numbers):
    return " ".join([word] + [str(number) for number in numbers])


def write_log(log):
    """Return the text of the log."""
    return "".join([_move_line(move) + "\n" for move in log])


def _move_line(move):
    taker, out, into = move
    return f"{taker} adds {into}" if out is None else f"{taker} puts {into} for {out}"

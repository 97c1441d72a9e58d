"""The errors that the program raises.

No message shows a passed number: a number may have more digits than Python writes.
"""


class TakersrestError(ValueError):
    """The base class of all errors that the program raises."""


class NoLots(TakersrestError):
    """An offer was asked for without any lot."""


class NotJoined(TakersrestError):
    """No roads join all points to each other."""


class NoWay(TakersrestError):
    """No way leads from the start to the end."""


class NoPairing(TakersrestError):
    """No set of roads meets each point exactly once."""


class SmoothOffer(TakersrestError):
    """The offer is smooth where one that is not was asked for."""


class UnlikeCosts(TakersrestError):
    """The costs of the game are not alike."""


class HallFull(TakersrestError):
    """There is no room for another taker."""


class WrongSize(TakersrestError):
    """An offer or a cost table does not have the size or the room that is asked for."""


class NothingToUndo(TakersrestError):
    """There is no deed that could be taken back."""


class BadText(TakersrestError):
    """Each line has a right form, but the whole is not the text of a game."""


class BadThing(TakersrestError):
    """The passed lot at the position has a number that is not a thing."""

    def __init__(self, position):
        TakersrestError.__init__(self, "a lot has a number that is not a thing of the offer")
        self.position = position


class NestedLots(TakersrestError):
    """The lot inner lies within the lot outer."""

    def __init__(self, inner, outer):
        TakersrestError.__init__(self, "a lot lies within another one")
        self.inner = inner
        self.outer = outer


class BadRow(TakersrestError):
    """The row of the thing does not have as many entries as the room."""

    def __init__(self, thing):
        TakersrestError.__init__(self, "a row does not have as many entries as the room")
        self.thing = thing


class FallingCosts(TakersrestError):
    """In the row of the thing an entry is less than the one before it."""

    def __init__(self, thing):
        TakersrestError.__init__(self, "in a row an entry is less than the one before it")
        self.thing = thing


class UnlikeSizes(TakersrestError):
    """The offer or the costs of the taker do not have the size of the game."""

    def __init__(self, taker):
        TakersrestError.__init__(self, "a taker does not have the size of the game")
        self.taker = taker


class SmallRoom(TakersrestError):
    """The room is too small for the takers."""

    def __init__(self, taker):
        TakersrestError.__init__(self, "the room is too small for the takers")
        self.taker = taker


class BadWeight(TakersrestError):
    """The weight of the taker is less than 1."""

    def __init__(self, taker):
        TakersrestError.__init__(self, "a weight is less than 1")
        self.taker = taker


class NotSmooth(TakersrestError):
    """The offer of the taker is not smooth."""

    def __init__(self, taker):
        TakersrestError.__init__(self, "the offer of a taker is not smooth")
        self.taker = taker


class BadMove(TakersrestError):
    """The move at the position is not allowed."""

    def __init__(self, position):
        TakersrestError.__init__(self, "a move is not allowed")
        self.position = position


class RoughOffer(TakersrestError):
    """The offer is not smooth; the fault is its first one."""

    def __init__(self, fault):
        TakersrestError.__init__(self, "the offer is not smooth")
        self.fault = fault


class Barred(TakersrestError):
    """The offers cannot be apart; the bar shows it."""

    def __init__(self, bar):
        TakersrestError.__init__(self, "the offers cannot be apart")
        self.bar = bar


class UnknownTaker(TakersrestError):
    """No taker who is here has the number."""

    def __init__(self, number):
        TakersrestError.__init__(self, "no taker who is here has this number")
        self.number = number


class BadLine(TakersrestError):
    """The line, counted from 1, does not have a right form."""

    def __init__(self, line):
        TakersrestError.__init__(self, "a line does not have a right form")
        self.line = line

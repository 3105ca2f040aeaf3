"""Moves: one train goes to a neighbouring place that is not full."""

from passyards.errors import Blocked
from passyards.lines import copied, is_train, place_of, trains

OTHER_SIDE = {"left": "right", "right": "left"}


def is_move(thing):
    """Whether thing is a MOVE."""
    if not isinstance(thing, tuple) or len(thing) != 2:
        return False
    train, side = thing
    return is_train(train) and side in ("left", "right")


def is_row(thing):
    """Whether thing is a list of MOVEs."""
    return isinstance(thing, list) and all([is_move(part) for part in thing])


def neighbour(place, side):
    """The number of the place beside that one; it may be none of the line."""
    return place + 1 if side == "right" else place - 1


def has_room(line, standing, place):
    """Whether the place is one of the line and not full."""
    return 0 <= place < len(line) and len(standing[place]) < line[place][1]


def may_leave(line, standing, place, train, side):
    """Whether the train of that place may leave it to that side."""
    if line[place][0] == "yard":
        return True
    held = standing[place]
    return train == (held[-1] if side == "right" else held[0])


def without(held, train):
    """The trains of a place after that one has left it."""
    return tuple([other for other in held if other != train])


def entered(line, standing, place, train, side):
    """The trains of the place after that one has come into it by a move to that side."""
    held = standing[place]
    if line[place][0] == "yard":
        return tuple(sorted([train, *held]))
    return (train, *held) if side == "right" else (*held, train)


def can_move(line, standing, train, side):
    """Whether the train can move to that side; raises NoTrain(train)."""
    place = place_of(standing, train)
    return has_room(line, standing, neighbour(place, side)) and may_leave(line, standing, place, train, side)


def moves(line, standing):
    """The ascending list of all possible MOVEs."""
    return [(train, side) for train in trains(standing) for side in ("left", "right")
            if can_move(line, standing, train, side)]


def moved(line, standing, move):
    """The STANDING after the move; raises NoTrain(train), then Blocked(pair)."""
    train, side = move
    if not can_move(line, standing, train, side):
        raise Blocked((train, side))
    place = place_of(standing, train)
    goal = neighbour(place, side)
    after = list(copied(standing))
    after[place] = without(standing[place], train)
    after[goal] = entered(line, standing, goal, train, side)
    return tuple(after)


def run(line, standing, row):
    """The STANDING after the MOVEs of the row; raises what moved raises for the first one that fails."""
    now = copied(standing)
    for move in row:
        now = moved(line, now, move)
    return now


def back(row):
    """The MOVEs that take the row back: in reverse order, each to the other side."""
    return [(train, OTHER_SIDE[side]) for train, side in reversed(row)]

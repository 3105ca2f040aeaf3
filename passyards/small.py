"""Search of small lines: all standings to which one leads, one by one."""

from passyards.counting import reachable_many
from passyards.errors import TooMany
from passyards.leading import check_trains
from passyards.limits import MOST
from passyards.lines import copied
from passyards.moves import moved, moves


def check_few(line, standing):
    """Raises TooMany(MOST) if the standing leads to more than MOST standings."""
    if reachable_many(line, standing) > MOST:
        raise TooMany(MOST)


def distances(line, standing):
    """A dict: for each standing to which this one leads, the fewest moves that it takes."""
    start = copied(standing)
    found = {start: 0}
    newest = [start]
    while newest:
        further = []
        for now in newest:
            for move in moves(line, now):
                after = moved(line, now, move)
                if after not in found:
                    found[after] = found[now] + 1
                    further.append(after)
        newest = further
    return found


def all_from(line, standing):
    """The ascending list of all standings to which it leads; raises TooMany(MOST)."""
    check_few(line, standing)
    return sorted(distances(line, standing))


def distance(line, one, other):
    """The fewest moves that turn one into other, or None; raises OtherTrains(), then TooMany(MOST)."""
    check_trains(one, other)
    check_few(line, one)
    return distances(line, one).get(copied(other))


def nearer(line, now, left):
    """The first move, as moves ascend, after which fewer moves are left."""
    for move in moves(line, now):
        if left[moved(line, now, move)] < left[now]:
            return move
    return None


def first_row(line, one, other):
    """Of the rows of so few moves, the first one as lists ascend, or None; raises OtherTrains(), then TooMany(MOST)."""
    check_trains(one, other)
    check_few(line, one)
    # Every move can be taken back: so what it takes from other is what is left to go there.
    left = distances(line, other)
    now = copied(one)
    if now not in left:
        return None
    row = []
    while left[now] > 0:
        move = nearer(line, now, left)
        row.append(move)
        now = moved(line, now, move)
    return row

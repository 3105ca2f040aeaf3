"""Sizes: with which sizes of the places, and for how many trains, every order can be reached."""

from passyards.blocks import blocks, mixing_spans
from passyards.errors import NoPlace
from passyards.lines import capacity


def with_size(line, place, size):
    """The LINE in which that place has that size; raises NoPlace(place)."""
    if not 0 <= place < len(line):
        raise NoPlace(place)
    return tuple([(kind, size if at == place else its) for at, (kind, its) in enumerate(line)])


def is_free(line, many):
    """Whether many trains have one block at most."""
    # The spans ascend, so a position that is no joint by now will not become one by a later yard.
    joined = 0
    for low, high in mixing_spans(line, many):
        if low <= joined:
            joined = max(joined, high - 1)
    return joined >= many - 1


def least_size(line, many, place):
    """The least size of that place for which there is room and is_free holds, or None; raises NoPlace(place)."""
    # With room for all trains and for two that pass each other, a place is as good as with any more room.
    for size in range(1, max(many, 2) + 1):
        tried = with_size(line, place, size)
        if many <= capacity(tried) and is_free(tried, many):
            return size
    return None


def most_trains(line):
    """The greatest number of trains, at most the capacity, for which is_free holds."""
    return max([many for many in range(capacity(line) + 1) if is_free(line, many)])


def joining_places(line, many):
    """The ascending list of the places whose size, if it were greater by 1, would give fewer blocks for many trains."""
    now = len(blocks(line, many))
    return [place for place, (_, size) in enumerate(line)
            if len(blocks(with_size(line, place, size + 1), many)) < now]

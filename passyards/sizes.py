"""Sizes: with which sizes of the places, and for how many trains, every order can be reached."""

from passyards.blocks import blocks, mixing_spans
from passyards.errors import NoPlace
from passyards.lines import capacity


def with_size(line, place, size):
    """The LINE in which that place has that size; raises NoPlace(place)."""
    if not 0 <= place < len(line):
        raise NoPlace(place)
    return tuple([(kind, size if at == place else its) for at, (kind, its) in enumerate(line)])


def is_free(line, many):
    """Whether many trains have one block at most."""
    # The first position that no yard so far makes a joint. As the spans ascend, one that begins behind it is too late.
    joined = 0
    for low, high in mixing_spans(line, many):
        if low <= joined:
            joined = max(joined, high - 1)
    return joined >= many - 1


# A joint stays one if a place grows, and if there is one train less, as long as both its positions hold trains. So the
# two functions below look for the one number at which the answer changes, by halving: sizes may be very large.


def suits(line, many):
    """Whether many trains have room on the line, and one block at most."""
    return many <= capacity(line) and is_free(line, many)


def least_size(line, many, place):
    """The least size of that place for which there is room and is_free holds, or None; raises NoPlace(place)."""
    # With room for all trains, a place is as good as with any more room.
    low, high = 1, max(many, 1)
    if not suits(with_size(line, place, high), many):
        return None
    while low < high:
        middle = (low + high) // 2
        if suits(with_size(line, place, middle), many):
            high = middle
        else:
            low = middle + 1
    return low


def most_trains(line):
    """The greatest number of trains, at most the capacity, for which is_free holds."""
    low, high = 1, capacity(line)
    while low < high:
        middle = (low + high + 1) // 2
        if is_free(line, middle):
            low = middle
        else:
            high = middle - 1
    return low


def joining_places(line, many):
    """The ascending list of the places whose size, if it were greater by 1, would give fewer blocks for many trains."""
    now = len(blocks(line, many))
    return [place for place, (_, size) in enumerate(line)
            if len(blocks(with_size(line, place, size + 1), many)) < now]

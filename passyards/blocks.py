"""Order and blocks: which positions of the order can exchange their trains."""

from passyards.errors import NoTrain
from passyards.lines import capacity


def order(line, standing):
    """The ORDER: the trains from left to right, those of one yard in ascending order."""
    # A STANDING lists the trains of a yard in ascending order itself, so the line is not asked.
    return [train for held in standing for train in held]


def spans(line, many):
    """The pair (L, H) of each place: a position p can be brought there exactly if L <= p < H."""
    found = []
    high = 0
    rest = capacity(line)
    for _, size in line:
        # What finds no room in this place and to its right stands further left.
        low = max(0, many - rest)
        high += size
        rest -= size
        found.append((low, high))
    return found


def mixing_spans(line, many):
    """The spans of the places in which trains can pass: the yards with room for two."""
    return [span for (kind, size), span in zip(line, spans(line, many)) if kind == "yard" and size >= 2]


def joints(line, many):
    """The ascending list of the joints."""
    mixing = mixing_spans(line, many)
    return [at for at in range(many - 1) if any([low <= at and at + 2 <= high for low, high in mixing])]


def blocks(line, many):
    """The list of the blocks, each as a pair (first, last) of positions, in ascending order."""
    joined = joints(line, many)
    found = []
    first = 0
    for at in range(many):
        if at not in joined:
            found.append((first, at))
            first = at + 1
    return found


def blocks_at(line, many):
    """For each place, the ascending list of the blocks of which a train can be brought there."""
    found = blocks(line, many)
    return [[block for block, (first, last) in enumerate(found) if low <= last and first < high]
            for low, high in spans(line, many)]


def groups(line, standing):
    """The list of the GROUPS, block by block."""
    row = order(line, standing)
    return [tuple(sorted(row[first:last + 1])) for first, last in blocks(line, len(row))]


def block_of(line, standing, train):
    """The number of the block that holds the train; raises NoTrain(train)."""
    for block, group in enumerate(groups(line, standing)):
        if train in group:
            return block
    raise NoTrain(train)

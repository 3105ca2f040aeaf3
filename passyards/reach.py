"""Where trains can go, whom they can meet, and whom they stay ahead of."""

from passyards.blocks import block_of, blocks_at, order


def places_of(line, standing, train):
    """The ascending list of the places that the train can ever stand in; raises NoTrain(train)."""
    block = block_of(line, standing, train)
    reached = blocks_at(line, len(order(line, standing)))
    return [place for place, found in enumerate(reached) if block in found]


def may_meet(line, standing, one, other):
    """Whether the two trains can ever stand in one yard; raises NoTrain of one, then of other."""
    return block_of(line, standing, one) == block_of(line, standing, other)


def ever_ahead(line, standing, one, other):
    """Whether one always stays strictly ahead of other; raises NoTrain of one, then of other."""
    return block_of(line, standing, one) < block_of(line, standing, other)

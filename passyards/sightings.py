"""What sightings of an unknown standing imply.

The blocks that a train is allowed stand side by side. By Hall's theorem, the seen trains can therefore be given
positions of their own exactly if no run of blocks is overfull.
"""

from passyards.blocks import blocks, blocks_at
from passyards.errors import NoPlace
from passyards.lines import is_number, is_train


def allowed_blocks(line, many, sightings):
    """For each seen train, the ascending list of the blocks that all its SIGHTINGS allow; raises NoPlace(place)."""
    reached = blocks_at(line, many)
    found = {}
    for train, place in sightings:
        if not 0 <= place < len(line):
            raise NoPlace(place)
        before = found.get(train, reached[place])
        found[train] = [block for block in before if block in reached[place]]
    return found


def is_confined(numbers, first, last):
    """Whether these are blocks, at least one, from first to last alone."""
    return len(numbers) > 0 and first <= numbers[0] and numbers[-1] <= last


def positions_in(found, first, last):
    """How many positions the blocks from first to last have."""
    return found[last][1] - found[first][0] + 1


def first_run(found, allowed):
    """A RUN for the list of the blocks and the blocks that each seen train is allowed, or None."""
    lost = [train for train in sorted(allowed) if not allowed[train]]
    if lost:
        return (0, 0, (lost[0],))
    # A run that begins or ends elsewhere has no more trains than a shorter one.
    for first in sorted({numbers[0] for numbers in allowed.values()}):
        for last in sorted({numbers[-1] for numbers in allowed.values()}):
            some = [train for train in sorted(allowed) if is_confined(allowed[train], first, last)]
            if some and len(some) > positions_in(found, first, last):
                return (first, last, tuple(some))
    return None


def fits(line, many, sightings):
    """Whether some standing and some moves agree with all SIGHTINGS; raises NoPlace(place)."""
    return overfull(line, many, sightings) is None


def overfull(line, many, sightings):
    """None if the SIGHTINGS fit, otherwise a RUN; raises NoPlace(place)."""
    allowed = allowed_blocks(line, many, sightings)
    return first_run(blocks(line, many), allowed)


def has_run_form(thing):
    """Whether thing is a triple of two numbers and an ascending tuple of TRAINs."""
    if not isinstance(thing, tuple) or len(thing) != 3:
        return False
    first, last, some = thing
    if not is_number(first) or not is_number(last) or not isinstance(some, tuple):
        return False
    return all([is_train(part) for part in some]) and list(some) == sorted(set(some))


def shows_run(line, many, sightings, thing):
    """Whether thing is a RUN; raises NoPlace(place)."""
    allowed = allowed_blocks(line, many, sightings)
    if not has_run_form(thing):
        return False
    first, last, some = thing
    if not all([train in allowed for train in some]):
        return False
    if first == last == 0 and len(some) == 1 and not allowed[some[0]]:
        return True
    found = blocks(line, many)
    if not 0 <= first <= last < len(found) or not all([is_confined(allowed[train], first, last) for train in some]):
        return False
    return len(some) > positions_in(found, first, last)


def blocks_for(line, many, sightings, train):
    """The ascending list of the blocks that may hold the train, seen or not; raises NoPlace(place)."""
    allowed = allowed_blocks(line, many, sightings)
    found = blocks(line, many)
    candidates = allowed.get(train, list(range(len(found))))
    return [block for block in candidates if first_run(found, {**allowed, train: [block]}) is None]

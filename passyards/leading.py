"""Which standing leads to which, and by what moves."""

from passyards.blocks import groups, order, spans
from passyards.errors import Barred, Blocked, NoTrain, OtherTrains
from passyards.lines import copied, is_exactly, trains
from passyards.moves import is_row, run
from passyards.slides import cuts_of, distance_of, nearest, slide


def check_trains(one, other):
    """Raises OtherTrains() if the standings do not hold the same trains."""
    if trains(one) != trains(other):
        raise OtherTrains()


def bars(line, one, other):
    """The list of all BARs of the two standings, in ascending order of their blocks."""
    check_trains(one, other)
    return [(block, mine, its) for block, (mine, its) in enumerate(zip(groups(line, one), groups(line, other)))
            if mine != its]


def leads(line, one, other):
    """Whether one leads to other; raises OtherTrains()."""
    return bars(line, one, other) == []


def bar(line, one, other):
    """The BAR of the first block that differs, or None if one leads to other; raises OtherTrains()."""
    found = bars(line, one, other)
    return found[0] if found else None


def shows_bar(line, one, other, thing):
    """Whether thing is a BAR of the two standings; raises OtherTrains()."""
    return any([is_exactly(thing, found) for found in bars(line, one, other)])


def check_leads(line, one, other):
    """Raises OtherTrains(), then Barred(block) if one does not lead to other."""
    found = bar(line, one, other)
    if found is not None:
        raise Barred(found[0])


def arranged(line, row, cuts, ranks):
    """The row with the trains of each yard in the order of their ranks."""
    found = []
    for place, (kind, _) in enumerate(line):
        held = row[cuts[place]:cuts[place + 1]]
        found.extend(sorted(held, key=lambda train: ranks[train]) if kind == "yard" else held)
    return found


def meetings(line, cuts, joint):
    """For each yard in which the trains at joint and joint + 1 can meet, the nearest cuts in which they do."""
    many = cuts[-1]
    found = []
    for place, (low, high) in enumerate(spans(line, many)):
        kind, size = line[place]
        if kind == "yard" and size >= 2 and low <= joint and joint + 2 <= high:
            # A yard that is filled up with those before them saves most of the later meetings.
            first = max(low, joint + 2 - size)
            found.append(nearest(line, cuts, place, first, min(first + size, many)))
    return found


def first_descent(row, ranks):
    """The first position whose train has a higher rank than the next one, or None."""
    for at in range(len(row) - 1):
        if ranks[row[at]] > ranks[row[at + 1]]:
            return at
    return None


def row_to(line, one, other):
    """A list of MOVEs that turns one into other; raises OtherTrains(), then Barred(block)."""
    check_leads(line, one, other)
    ranks = {train: rank for rank, train in enumerate(order(line, other))}
    cuts = cuts_of(one)
    row = arranged(line, order(line, one), cuts, ranks)
    path = []
    # As the groups are equal, a descent lies within a block: its two trains can meet in a yard and pass there.
    while (joint := first_descent(row, ranks)) is not None:
        goal = min(meetings(line, cuts, joint), key=lambda near: distance_of(cuts, near))
        path.extend(slide(line, row, cuts, goal))
        cuts = goal
        row = arranged(line, row, cuts, ranks)
    return path + slide(line, row, cuts, cuts_of(other))


def shows_row(line, one, other, thing):
    """Whether thing is a list of MOVEs that turns one into other; raises OtherTrains()."""
    check_trains(one, other)
    if not is_row(thing):
        return False
    try:
        return run(line, one, thing) == copied(other)
    except (NoTrain, Blocked):
        return False

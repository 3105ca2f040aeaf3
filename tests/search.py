"""The moves of point [5] by a plain search, which the tests compare the formulas with."""

import itertools

from passyards.lines import capacity


def small_lines():
    """Lines of up to three places of sizes up to 3, not too large to be searched."""
    places = [(kind, size) for kind in ("track", "yard") for size in (1, 2, 3)]
    return [line for length in (1, 2, 3) for line in itertools.product(places, repeat=length)
            if length < 3 or capacity(line) <= 5]


def as_listed(kind, held):
    """The trains of a place as a standing lists them."""
    return tuple(sorted(held)) if kind == "yard" else tuple(held)


def may_leave(kind, held, train, side):
    """Whether a train of the place can be taken out on that side (1 right, -1 left)."""
    return kind == "yard" or (held[-1] if side == 1 else held[0]) == train


def step(line, standing, place, train, side):
    """The standing after the train has left the place to that side (1 right, -1 left), or None."""
    to = place + side
    if not 0 <= to < len(line) or len(standing[to]) == line[to][1]:
        return None
    if not may_leave(line[place][0], standing[place], train, side):
        return None
    after = list(standing)
    after[place] = tuple(other for other in standing[place] if other != train)
    after[to] = as_listed(line[to][0], (train,) + after[to] if side == 1 else after[to] + (train,))
    return tuple(after)


def steps(line, standing):
    """The standings that one move makes of this one."""
    found = [step(line, standing, place, train, side)
             for place, held in enumerate(standing) for train in held for side in (-1, 1)]
    return [after for after in found if after is not None]


def played(line, standing, row):
    """The standing after the moves of the row, or None if one of them is not possible."""
    for train, side in row:
        if standing is None or not any(train in held for held in standing):
            return None
        standing = step(line, standing, where(standing, train), train, 1 if side == "right" else -1)
    return standing


def reached(line, standing):
    """The set of all standings to which this one leads."""
    found = {standing}
    waiting = [standing]
    while waiting:
        for after in steps(line, waiting.pop()):
            if after not in found:
                found.add(after)
                waiting.append(after)
    return found


def least_rows(line, standing):
    """For each standing to which this one leads, the first of the shortest rows, as lists ascend."""
    found = {standing: []}
    newest = [standing]
    while newest:
        further = {}
        for now in newest:
            for train in sorted(train for held in now for train in held):
                for side in ("left", "right"):
                    after = step(line, now, where(now, train), train, 1 if side == "right" else -1)
                    if after is not None and after not in found:
                        row = found[now] + [(train, side)]
                        further[after] = min(further.get(after, row), row)
        found.update(further)
        newest = list(further)
    return found


def fillings(line, row):
    """All standings in which the trains stand in this order, place by place."""
    if not line:
        return [()] if not row else []
    kind, size = line[0]
    found = []
    for many in range(min(size, len(row)) + 1):
        held = as_listed(kind, row[:many])
        found += [(held,) + rest for rest in fillings(line[1:], row[many:])]
    return found


def every_standing(line, many):
    """All standings of the trains 0, 1, .., many - 1."""
    found = {standing for row in itertools.permutations(range(many)) for standing in fillings(line, row)}
    return sorted(found)


def lots(line, many):
    """All standings of so many trains, parted into the sets that lead to one another."""
    rest = set(every_standing(line, many))
    found = []
    while rest:
        lot = reached(line, min(rest))
        found.append(lot)
        rest -= lot
    return found


def where(standing, train):
    """The place in which the train stands."""
    return [train in held for held in standing].index(True)


def strictly_ahead(line, standing, one, other):
    """Whether one is strictly ahead of other, as point [9] says it."""
    at, its = where(standing, one), where(standing, other)
    if at != its:
        return at < its
    held = standing[at]
    return line[at][0] == "track" and held.index(one) < held.index(other)


def met(line, standing, one, other):
    """Whether the two trains stand in one yard."""
    at = where(standing, one)
    return at == where(standing, other) and line[at][0] == "yard"

"""The moves of point [5] by a plain search, which the tests compare the formulas with."""


def as_listed(kind, held):
    """The trains of a place as a standing lists them."""
    return tuple(sorted(held)) if kind == "yard" else tuple(held)


def may_leave(kind, held, train, side):
    """Whether a train of the place can be taken out on that side (1 right, -1 left)."""
    return kind == "yard" or (held[-1] if side == 1 else held[0]) == train


def step(line, standing, place, train, side):
    """The standing after the train has left the place to that side (1 right, -1 left), or None."""
    to = place + side
    if not 0 <= to < len(line) or len(standing[to]) == line[to][1]:
        return None
    if not may_leave(line[place][0], standing[place], train, side):
        return None
    after = list(standing)
    after[place] = tuple(other for other in standing[place] if other != train)
    after[to] = as_listed(line[to][0], (train,) + after[to] if side == 1 else after[to] + (train,))
    return tuple(after)


def steps(line, standing):
    """The standings that one move makes of this one."""
    found = [step(line, standing, place, train, side)
             for place, held in enumerate(standing) for train in held for side in (-1, 1)]
    return [after for after in found if after is not None]


def reached(line, standing):
    """The set of all standings to which this one leads."""
    found = {standing}
    waiting = [standing]
    while waiting:
        for after in steps(line, waiting.pop()):
            if after not in found:
                found.add(after)
                waiting.append(after)
    return found


def fillings(line, row):
    """All standings in which the trains stand in this order, place by place."""
    if not line:
        return [()] if not row else []
    kind, size = line[0]
    found = []
    for many in range(min(size, len(row)) + 1):
        held = as_listed(kind, row[:many])
        found += [(held,) + rest for rest in fillings(line[1:], row[many:])]
    return found

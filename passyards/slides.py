"""Slides: how trains that keep their order come from some places to other places.

A standing is seen here as a row and its cuts. The row lists the trains from left to right, those of one yard in any
order. The cut at index i is the number of trains to the left of place i; there is one cut more than places.
"""

from passyards.lines import counts


def cuts_of(standing):
    """The cuts of the standing."""
    found = [0]
    for many in counts(standing):
        found.append(found[-1] + many)
    return found


def distance_of(cuts, goal):
    """How many moves a slide from the cuts to the goal takes: each one changes one cut by 1."""
    return sum([abs(mine - its) for mine, its in zip(cuts, goal)])


def may_cross_right(line, cuts, at):
    """Whether a train may go from the place before that cut to the one behind it."""
    return cuts[at - 1] < cuts[at] and cuts[at + 1] - cuts[at] < line[at][1]


def may_cross_left(line, cuts, at):
    """Whether a train may go from the place behind that cut to the one before it."""
    return cuts[at] < cuts[at + 1] and cuts[at] - cuts[at - 1] < line[at - 1][1]


def slide(line, row, cuts, goal):
    """The MOVEs that turn the cuts into the goal while the row stays as it is."""
    # While a cut is too far to the right, some such cut can be lowered: where its train has no room, or where it has
    # no train, the next cut on that side is too far to the right as well. The same holds for the other side.
    now = list(cuts)
    path = []
    while now != goal:
        for at in range(1, len(line)):
            while now[at] > goal[at] and may_cross_right(line, now, at):
                now[at] -= 1
                path.append((row[now[at]], "right"))
            while now[at] < goal[at] and may_cross_left(line, now, at):
                path.append((row[now[at]], "left"))
                now[at] += 1
    return path


def nearest(line, cuts, place, first, behind):
    """The cuts nearest to these in which the place holds the positions first, .., behind - 1."""
    near = list(cuts)
    near[place], near[place + 1] = first, behind
    for at in reversed(range(place)):
        near[at] = min(max(near[at], near[at + 1] - line[at][1]), near[at + 1])
    for at in range(place + 1, len(line)):
        near[at + 1] = max(min(near[at + 1], near[at] + line[at][1]), near[at])
    return near

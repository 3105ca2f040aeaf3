"""Counting standings, and the number of each one among those that can be reached.

A standing is built up place by place, and in each place train by train. In how many ways it can be completed depends
only on the place, on how many trains stand already and, in a yard, on how many trains may still be listed there.
"""

from math import comb, factorial

from passyards.blocks import blocks, groups, order
from passyards.errors import NoNumber
from passyards.leading import check_leads
from passyards.lines import capacity


def choices_of(found):
    """For each position, how many trains of its block are left for it; and 0 behind the last position."""
    return [last + 1 - at for first, last in found for at in range(first, last + 1)] + [0]


def fillings(kind, room, choices, at, fit):
    """For each number from 0, in how many ways so many trains more, from position at on, come into such a place.

    A yard lists them in ascending order: so they are chosen among those that fit behind the ones that it has.
    """
    most = min(room, len(choices) - 1 - at)
    if kind == "yard":
        return [comb(fit, many) for many in range(most + 1)]
    found = [1]
    for more in range(most):
        found.append(found[-1] * choices[at + more])
    return found


def endings(kind, room, choices, at, fit, behind):
    """In how many ways that place and those behind it take all trains from position at on."""
    return sum([ways * behind[at + more] for more, ways in enumerate(fillings(kind, room, choices, at, fit))])


def ways_table(line, choices):
    """Item [place][at] tells in how many ways that place and those behind it take all trains from position at on."""
    found = [[0] * (len(choices) - 1) + [1]]
    for kind, size in reversed(line):
        behind = found[-1]
        found.append([endings(kind, size, choices, at, fit, behind) for at, fit in enumerate(choices)])
    return found[::-1]


def ways_of(line, found):
    """How many standings there are in which each of these blocks holds the trains that are given for it."""
    return ways_table(line, choices_of(found))[0][0]


def reachable_many(line, standing):
    """To how many standings it leads, itself included."""
    return ways_of(line, blocks(line, len(order(line, standing))))


def standings_many(line, many):
    """How many standings of many given trains the line has."""
    # Without this, a number far above the capacity would make a table of that length.
    if many > capacity(line):
        return 0
    return ways_of(line, [(0, many - 1)])


def lots_many(line, many):
    """Into how many lots the standings of many given trains fall."""
    # A lot is a way to give each block its trains, in whatever order.
    found = factorial(many)
    for first, last in blocks(line, many):
        found //= factorial(last + 1 - first)
    return found


def followers(line, choices, table, place, held, rest):
    """The pairs (train, ways) for each train that may come next into the place, in ascending order.

    held are the trains of the place so far, rest the ones that stand nowhere yet, block by block.
    """
    kind, size = line[place]
    at = len(choices) - 1 - len(rest)
    pool = [train for train in rest[:choices[at]] if kind == "track" or not held or held[-1] < train]
    room = size - len(held) - 1
    return [(train, endings(kind, room, choices, at + 1, len(pool) - 1 - index, table[place + 1]))
            for index, train in enumerate(pool)]


def picked(found, number):
    """The train of the pair (train, ways) on which the number falls, and the number within its ways."""
    at = 0
    while number >= found[at][1]:
        number -= found[at][1]
        at += 1
    return (found[at][0], number)


def reachable_at(line, standing, number):
    """The standing with that number among those to which it leads, in ascending order; raises NoNumber(number)."""
    choices = choices_of(blocks(line, len(order(line, standing))))
    table = ways_table(line, choices)
    if not 0 <= number < table[0][0]:
        raise NoNumber(number)
    rest = [train for group in groups(line, standing) for train in group]
    found = []
    left = number
    for place in range(len(line)):
        held = []
        # A shorter tuple ascends before the ones that it begins.
        while left >= (short := table[place + 1][len(choices) - 1 - len(rest)]):
            train, left = picked(followers(line, choices, table, place, held, rest), left - short)
            held.append(train)
            rest.remove(train)
        found.append(tuple(held))
    return tuple(found)


def number_of(line, standing, other):
    """The number of other among the standings to which it leads; raises OtherTrains(), then Barred(block)."""
    check_leads(line, standing, other)
    choices = choices_of(blocks(line, len(order(line, standing))))
    table = ways_table(line, choices)
    rest = [train for group in groups(line, standing) for train in group]
    number = 0
    for place, held in enumerate(other):
        for index, train in enumerate(held):
            number += table[place + 1][len(choices) - 1 - len(rest)]
            found = followers(line, choices, table, place, held[:index], rest)
            number += sum([ways for before, ways in found if before < train])
            rest.remove(train)
    return number

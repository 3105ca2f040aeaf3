"""Fewest moves: what it takes at least to turn one standing into another one, where no two trains are reversed."""

from passyards.blocks import order
from passyards.errors import Crossed
from passyards.leading import arranged, check_trains, shows_row
from passyards.lines import place_of, trains
from passyards.slides import cuts_of, slide


def ranks_in(line, standing):
    """For each train a pair: a train stands strictly ahead of another one exactly if its pair is less."""
    return {train: (place, at if line[place][0] == "track" else 0)
            for place, held in enumerate(standing) for at, train in enumerate(held)}


def reversed_pairs(line, one, other):
    """The ascending list of the pairs (a, b), a below b, that are reversed; raises OtherTrains()."""
    check_trains(one, other)
    mine = ranks_in(line, one)
    its = ranks_in(line, other)
    known = trains(one)
    return [(a, b) for at, a in enumerate(known) for b in known[at + 1:]
            if (mine[a] < mine[b] and its[b] < its[a]) or (mine[b] < mine[a] and its[a] < its[b])]


def check_reversed(line, one, other):
    """Raises OtherTrains(), then Crossed(pair) with the first reversed pair."""
    found = reversed_pairs(line, one, other)
    if found:
        raise Crossed(found[0])


def steps_apart(one, other):
    """The sum, over all trains, of the absolute differences of their places."""
    return sum([abs(place_of(one, train) - place_of(other, train)) for train in trains(one)])


def fewest(line, one, other):
    """The fewest moves that turn one into other; raises OtherTrains(), then Crossed(pair)."""
    check_reversed(line, one, other)
    return steps_apart(one, other)


def fewest_row(line, one, other):
    """A list of so few MOVEs that turns one into other; raises OtherTrains(), then Crossed(pair)."""
    check_reversed(line, one, other)
    # As no pair is reversed, one row fits both: that of one, its yards in the order that other has. Trains that keep
    # their row need not make way for each other.
    ranks = {train: rank for rank, train in enumerate(order(line, other))}
    cuts = cuts_of(one)
    return slide(line, arranged(line, order(line, one), cuts, ranks), cuts, cuts_of(other))


def shows_fewest(line, one, other, thing):
    """Whether thing is a row that turns one into other in as many moves as steps_apart; raises OtherTrains()."""
    return shows_row(line, one, other, thing) and len(thing) == steps_apart(one, other)

"""Lines and standings: what they are, and plain facts about them."""

from passyards.errors import NoTrain


def is_number(thing):
    """Whether thing is an integer; Python counts True and False as integers, the package does not."""
    return isinstance(thing, int) and not isinstance(thing, bool)


def is_train(thing):
    """Whether thing is a TRAIN."""
    return is_number(thing) and thing >= 0


def is_place(thing):
    """Whether thing is a PLACE."""
    if not isinstance(thing, tuple) or len(thing) != 2:
        return False
    kind, size = thing
    return kind in ("track", "yard") and is_number(size) and size >= 1


def is_line(thing):
    """Whether thing is a LINE."""
    return isinstance(thing, tuple) and len(thing) >= 1 and all([is_place(part) for part in thing])


def is_exactly(thing, value):
    """Whether thing equals a value of numbers and tuples, and is of the same kind at each depth.

    Python's own comparison takes True for 1, and thing may hold it.
    """
    if not isinstance(value, tuple):
        return is_number(thing) and thing == value
    if not isinstance(thing, tuple) or len(thing) != len(value):
        return False
    return all([is_exactly(part, its) for part, its in zip(thing, value)])


def may_hold(place, thing):
    """Whether thing is a tuple of TRAINs that the place can hold, but for trains that occur twice."""
    kind, size = place
    if not isinstance(thing, tuple) or len(thing) > size:
        return False
    if not all([is_train(part) for part in thing]):
        return False
    return kind == "track" or list(thing) == sorted(thing)


def is_standing(line, thing):
    """Whether thing is a STANDING of the line."""
    if not isinstance(thing, tuple) or len(thing) != len(line):
        return False
    if not all([may_hold(place, part) for place, part in zip(line, thing)]):
        return False
    found = trains(thing)
    return len(set(found)) == len(found)


def capacity(line):
    """The sum of the sizes."""
    return sum([size for _, size in line])


def trains(standing):
    """The ascending list of all trains."""
    return sorted([train for held in standing for train in held])


def place_of(standing, train):
    """The number of the place in which the train stands; raises NoTrain(train)."""
    for place, held in enumerate(standing):
        if train in held:
            return place
    raise NoTrain(train)


def copied(standing):
    """The standing in tuples of its own, whatever lists stand for tuples in it."""
    return tuple([tuple(held) for held in standing])


def counts(standing):
    """The tuple of the numbers of trains, place by place."""
    return tuple([len(held) for held in standing])

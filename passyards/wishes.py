"""Wishes: whether some trains can stand at some places together, and how."""

from passyards.blocks import blocks, groups
from passyards.errors import Denied, NoPlace, NoTrain
from passyards.lines import is_number, trains


def check_wish(line, standing, wish):
    """Raises NoTrain of the least key that stands nowhere, then NoPlace of the least value that is no place."""
    known = trains(standing)
    for train in sorted(wish):
        if train not in known:
            raise NoTrain(train)
    for place in sorted(wish.values()):
        if not 0 <= place < len(line):
            raise NoPlace(place)


def demands_of(line, standing, wish):
    """For each place and each block the triple (first, last, wished).

    first and last are the positions of the block, wished the list of its trains that are wished to be at the place.
    """
    parts = list(zip(blocks(line, len(trains(standing))), groups(line, standing)))
    return [[(first, last, [train for train in group if wish.get(train) == place])
             for (first, last), group in parts] for place in range(len(line))]


def shared(first, last, low, high):
    """How many of the positions first, .., last are among low, .., high - 1."""
    return max(0, min(last + 1, high) - max(first, low))


def may_hold(size, demands, low, high):
    """Whether a place of that size and with these demands may hold the positions low, .., high - 1."""
    if not 0 <= high - low <= size:
        return False
    return all([shared(first, last, low, high) >= len(wished) for first, last, wished in demands])


def good_cuts(line, demands, many):
    """For each index, the ascending list of the cuts there that all places to the right agree with."""
    found = [[many]]
    for (_, size), its in reversed(list(zip(line, demands))):
        behind = found[-1]
        found.append([low for low in range(many + 1) if any([may_hold(size, its, low, high) for high in behind])])
    return found[::-1]


def cuts(line, standing, wish):
    """The first of the CUTS, or None; raises NoTrain(train), then NoPlace(place)."""
    check_wish(line, standing, wish)
    demands = demands_of(line, standing, wish)
    good = good_cuts(line, demands, len(trains(standing)))
    if 0 not in good[0]:
        return None
    found = [0]
    for (_, size), its, behind in zip(line, demands, good[1:]):
        found.append(min([high for high in behind if may_hold(size, its, found[-1], high)]))
    return found


def first_denied(line, standing, wish):
    """The first place at which no cut is left, or None: for the places to the right, only their sizes count."""
    many = len(trains(standing))
    room = sum([size for _, size in line])
    left = [0]
    for place, its in enumerate(demands_of(line, standing, wish)):
        size = line[place][1]
        room -= size
        left = [high for high in range(many + 1)
                if many - high <= room and any([may_hold(size, its, low, high) for low in left])]
        if not left:
            return place
    return None


def granted(line, standing, wish):
    """A reachable standing that meets the wish; raises NoTrain(train), then NoPlace(place), then Denied(place)."""
    found = cuts(line, standing, wish)
    if found is None:
        raise Denied(first_denied(line, standing, wish))
    # Those that nobody asks for fill up what the wished ones leave of their block.
    spare = [[train for train in group if train not in wish] for group in groups(line, standing)]
    after = []
    for place, demands in enumerate(demands_of(line, standing, wish)):
        held = []
        for block, (first, last, wished) in enumerate(demands):
            more = shared(first, last, found[place], found[place + 1]) - len(wished)
            held.extend(wished + spare[block][:more])
            spare[block] = spare[block][more:]
        after.append(tuple(sorted(held) if line[place][0] == "yard" else held))
    return tuple(after)


def shows_cuts(line, standing, wish, thing):
    """Whether thing is a list of CUTS of the wish; raises NoTrain(train), then NoPlace(place)."""
    check_wish(line, standing, wish)
    if not isinstance(thing, list) or len(thing) != len(line) + 1 or not all([is_number(part) for part in thing]):
        return False
    if thing[0] != 0 or thing[-1] != len(trains(standing)):
        return False
    demands = demands_of(line, standing, wish)
    return all([may_hold(size, its, low, high)
                for (_, size), its, low, high in zip(line, demands, thing, thing[1:])])

"""A yard that is kept over many operations, which can be taken back."""

from passyards.blocks import groups
from passyards.errors import Full, Inside, Known, NoOperation
from passyards.lines import place_of, trains
from passyards.moves import OTHER_SIDE, entered, has_room, may_leave, moved, moves, run, without
from passyards.sizes import with_size


def emptied(line):
    """The STANDING of the line without any trains."""
    return tuple([() for _ in line])


def with_place(standing, place, held):
    """The STANDING in which that place holds these trains."""
    return (*standing[:place], held, *standing[place + 1:])


def after_entering(line, standing, train, side):
    """The STANDING after the train has come into the line from that side; raises Known(train), then Full(place)."""
    if train in trains(standing):
        raise Known(train)
    place = 0 if side == "left" else len(line) - 1
    if not has_room(line, standing, place):
        raise Full(place)
    # A train that comes from the left goes to the right.
    return with_place(standing, place, entered(line, standing, place, train, OTHER_SIDE[side]))


def side_to_leave(line, standing, train):
    """The side to which the train may leave the line, left before right; raises NoTrain(train), then Inside(train)."""
    place = place_of(standing, train)
    for side, last in (("left", 0), ("right", len(line) - 1)):
        if place == last and may_leave(line, standing, place, train, side):
            return side
    raise Inside(train)


def after_leaving(standing, train):
    """The STANDING after the train has left the line."""
    place = place_of(standing, train)
    return with_place(standing, place, without(standing[place], train))


def resized(line, standing, place, size):
    """The LINE in which that place has that size; raises NoPlace(place), then Full(place)."""
    after = with_size(line, place, size)
    if len(standing[place]) > size:
        raise Full(place)
    return after


class Yard:
    """A line and its standing, kept over operations.

    For each operation in effect the Yard keeps the line and the standing after it, behind those of the beginning.
    """

    def __init__(self, line):
        own = tuple([(kind, size) for kind, size in line])
        self._states = [(own, emptied(own))]
        self._calls = []

    def enter(self, train, *, side="left"):
        """The train enters the line from that side; raises Known(train), then Full(place)."""
        self._calls.append(("in", "enter"))
        try:
            after = after_entering(self.line(), self.standing(), train, side)
            self._states.append((self.line(), after))
        finally:
            self._calls.append(("out", "enter"))

    def leave(self, train):
        """The train leaves the line to the side that is returned; raises NoTrain(train), then Inside(train)."""
        self._calls.append(("in", "leave"))
        try:
            side = side_to_leave(self.line(), self.standing(), train)
            self._states.append((self.line(), after_leaving(self.standing(), train)))
            return side
        finally:
            self._calls.append(("out", "leave"))

    def move(self, train, side):
        """The train moves to the place that is returned; raises NoTrain(train), then Blocked(pair)."""
        self._calls.append(("in", "move"))
        try:
            after = moved(self.line(), self.standing(), (train, side))
            self._states.append((self.line(), after))
            return place_of(after, train)
        finally:
            self._calls.append(("out", "move"))

    def run(self, row):
        """All MOVEs of the row, or none of them; raises what the first failing one raises."""
        self._calls.append(("in", "run"))
        try:
            self._states.append((self.line(), run(self.line(), self.standing(), row)))
        finally:
            self._calls.append(("out", "run"))

    def resize(self, place, size):
        """That place has that size from now on; raises NoPlace(place), then Full(place)."""
        self._calls.append(("in", "resize"))
        try:
            self._states.append((resized(self.line(), self.standing(), place, size), self.standing()))
        finally:
            self._calls.append(("out", "resize"))

    def undo(self):
        """Takes back the last operation in effect; returns whether there was one."""
        self._calls.append(("in", "undo"))
        try:
            if self.operations() == 0:
                return False
            self._states.pop()
            return True
        finally:
            self._calls.append(("out", "undo"))

    def line(self):
        """The LINE."""
        return self._states[-1][0]

    def standing(self):
        """The STANDING."""
        return self._states[-1][1]

    def moves(self):
        """The ascending list of all possible MOVEs."""
        return moves(self.line(), self.standing())

    def groups(self):
        """The list of the GROUPS."""
        return groups(self.line(), self.standing())

    def operations(self):
        """How many operations are in effect."""
        return len(self._states) - 1

    def as_of(self, many):
        """A new Yard in the state after the first many operations in effect; raises NoOperation(many)."""
        if not 0 <= many <= self.operations():
            raise NoOperation(many)
        found = Yard(self.line())
        found._states = self._states[:many + 1]
        return found

    def twin(self):
        """A new Yard in the state after all operations in effect."""
        return self.as_of(self.operations())

    def log(self):
        """The list of the pairs ("in", name) and ("out", name) of all calls of operations."""
        return list(self._calls)

    def __eq__(self, other):
        return isinstance(other, Yard) and self.line() == other.line() and self.standing() == other.standing()

    def __len__(self):
        return len(trains(self.standing()))

    def __repr__(self):
        return f"Yard({len(self.line())} places, {len(self)} trains)"

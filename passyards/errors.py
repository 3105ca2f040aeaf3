"""The errors of the package, one class for each kind of failure.

The messages show no values, because a number may have more digits than Python writes out.
"""


class OtherTrains(ValueError):
    """Two standings do not hold the same trains."""


class BadText(ValueError):
    """No value has this text."""

    def __init__(self, text):
        ValueError.__init__(self, "no value has this text")
        self.text = text


class BadLine(ValueError):
    """The line of this number, in a text of several lines, is not written as it must be."""

    def __init__(self, number):
        ValueError.__init__(self, "a line of the text is not written as it must be")
        self.number = number


class Known(ValueError):
    """The train is on the line already."""

    def __init__(self, train):
        ValueError.__init__(self, "the train is on the line already")
        self.train = train


class NoTrain(LookupError):
    """The train stands nowhere."""

    def __init__(self, train):
        LookupError.__init__(self, "the train stands nowhere")
        self.train = train


class NoPlace(LookupError):
    """The line has no place of this number."""

    def __init__(self, place):
        LookupError.__init__(self, "the line has no such place")
        self.place = place


class NoNumber(LookupError):
    """No reachable standing has this number."""

    def __init__(self, number):
        LookupError.__init__(self, "no reachable standing has this number")
        self.number = number


class NoOperation(LookupError):
    """There are not so many operations in effect."""

    def __init__(self, many):
        LookupError.__init__(self, "there are not so many operations in effect")
        self.many = many


class Blocked(RuntimeError):
    """The move, a pair of a train and a side, is not possible."""

    def __init__(self, pair):
        RuntimeError.__init__(self, "the move is not possible")
        self.pair = own_pair(pair)


class Barred(RuntimeError):
    """One standing does not lead to the other: this block holds other trains."""

    def __init__(self, block):
        RuntimeError.__init__(self, "a block holds other trains")
        self.block = block


class Crossed(RuntimeError):
    """The two trains of the pair are reversed."""

    def __init__(self, pair):
        RuntimeError.__init__(self, "two trains are reversed")
        self.pair = own_pair(pair)


class Denied(RuntimeError):
    """The wish cannot be met: at this place no cut is left."""

    def __init__(self, place):
        RuntimeError.__init__(self, "the wish cannot be met")
        self.place = place


class Inside(RuntimeError):
    """The train may not leave the line from where it stands."""

    def __init__(self, train):
        RuntimeError.__init__(self, "the train may not leave the line from where it stands")
        self.train = train


class TooMany(OverflowError):
    """There are more than so many standings."""

    def __init__(self, many):
        OverflowError.__init__(self, "there are too many standings")
        self.many = many


class Full(OverflowError):
    """The place has no room for that."""

    def __init__(self, place):
        OverflowError.__init__(self, "the place has no room")
        self.place = place


def own_pair(pair):
    """The pair as a tuple: a list that stands for it may be changed by the caller later."""
    return tuple(pair) if isinstance(pair, list) else pair

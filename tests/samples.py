"""Values that several tests share."""

LINE = (("track", 2), ("yard", 2), ("track", 1))
START = ((1, 2), (3, 4), ())

# The widest line of point [3], with 30 trains in it: two in each place but the last.
WIDE = tuple(("yard" if place % 3 == 1 else "track", 30) for place in range(16))
WIDE_START = tuple((2 * place, 2 * place + 1) for place in range(15)) + ((),)


def as_lists(value):
    """The value with lists for tuples, at any depth."""
    return [as_lists(part) for part in value] if isinstance(value, tuple) else value

"""What the tests of functions with a parameter called thing share."""

import copy
import unittest

# Values of every kind that a thing may have; none of them is what any of the functions asks for.
STRANGE = [0, 1, -1, 2, 10 ** 9, True, False, None, "", "a", "ab", "track", "yard", "track 2",
           [[]], [()], [0], ["track", 2], ((((((1,),),),),),), ((((((),),),),),), [[[[[[1]]]]]],
           (("track", 2), None), (None,), (True,), (False,), ("",), ("track",), (1,), (1, 2, 3), [1, "left"],
           (0, 0, 0), (0, (), ()), [0, [], []], ["left"], [("left",)], [(1, "left", "right")], [("left", 1)]]


def other_kinds(part):
    """Values that stand close to the part and are of another kind, or hold more or less than it."""
    if isinstance(part, tuple):
        return [list(part), part + part, part + ((),), (part,), part[:-1] if part else None, None, True]
    if isinstance(part, list):
        return [tuple(part), part + [0], part + [()], [part], None, "".join(map(str, part))]
    if isinstance(part, int):
        return [str(part), None, (part,), [part], -1 - part, part == 1]
    return [None, part + " ", part.upper(), (part,), 0, True, ""]


def near_misses(thing):
    """The thing with one of its parts, at any depth, made something close to it."""
    found = other_kinds(thing)
    if isinstance(thing, (tuple, list)):
        for at, part in enumerate(thing):
            found += [thing[:at] + type(thing)([other]) + thing[at + 1:] for other in near_misses(part)]
    return found


class Thing(unittest.TestCase):
    """Answers about things are True or False themselves, and change nothing."""

    def check(self, answer, expected):
        self.assertIs(answer, expected)

    def all_of(self, wrong, ask):
        for thing in wrong:
            before = copy.deepcopy(thing)
            with self.subTest(thing=thing):
                self.check(ask(thing), False)
                self.assertEqual(repr(thing), repr(before))

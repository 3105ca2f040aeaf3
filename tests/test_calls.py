"""What point [2] says of every function: arguments by name, lists for tuples, and whose the values are."""

import copy
import unittest

from samples import LINE, START, WIDE, WIDE_START
from test_interface import FUNCTIONS

NEAR = ((1, 3), (4,), (2,))
FAR = ((2, 1), (3, 4), ())
STEP = ((1,), (2, 3), (4,))
ROW = [(4, "right"), (2, "right"), (3, "left")]
SEEN = [(7, 0), (8, 0), (9, 0)]
# Values of the arguments; each call of a function takes one row.
ROWS = [
    {"line": LINE, "standing": START, "train": 3, "side": "right", "move": (4, "right"), "row": ROW, "many": 5,
     "one": START, "other": NEAR, "sightings": SEEN, "thing": START, "number": 7, "wish": {4: 0, 2: 2}, "place": 1,
     "size": 5},
    {"line": LINE, "standing": NEAR, "train": 4, "side": "left", "move": (1, "right"), "row": [], "many": 4,
     "one": NEAR, "other": FAR, "sightings": SEEN[:2], "thing": (0, (1,), (2,)), "number": 12, "wish": {1: 1},
     "place": 3, "size": 1},
    {"line": WIDE, "standing": WIDE_START, "train": 0, "side": "right", "move": (29, "right"), "many": 30,
     "row": [(29, "right"), (29, "left")] * 3, "one": WIDE_START, "other": WIDE_START, "thing": [],
     "sightings": [(train, train % 16) for train in range(30)], "number": 10 ** 20, "place": 15, "size": 30,
     "wish": {train: train % 16 for train in range(30)}},
    {"line": LINE, "standing": FAR, "train": 1, "side": "right", "move": (3, "right"), "many": 0, "row": ROW[:1],
     "one": START, "other": STEP, "thing": [(4, "right"), (2, "right")], "sightings": [], "number": 0, "wish": {},
     "place": 0, "size": 2},
]
# Here one and other are trains, not standings.
PAIRS = {"may_meet": (2, 4), "ever_ahead": (1, 4)}
# What each of these reads.
TEXTS = {"line_in": "T2 Y2 T1", "standing_in": "1 2 | 3 4 | -", "row_in": "4> 2<",
         "answers": "line Y2 T1\nenter 4 left\nshow\nmove 4 right\nmoves\nleave 7\nundo"}


def calls():
    """Each function with arguments by name, several times."""
    for functions in FUNCTIONS:
        for name, parameters in FUNCTIONS[functions].items():
            for row in ROWS:
                told = {parameter: copy.deepcopy(row[parameter]) for parameter in parameters if parameter != "text"}
                if name in PAIRS:
                    told["one"], told["other"] = PAIRS[name]
                if name in TEXTS:
                    told["text"] = TEXTS[name]
                yield getattr(functions, name), told


def answer_of(function, told):
    """What the call returns, or the class and the values of what it raises, written out with all kinds."""
    try:
        return repr(function(**told))
    except (ValueError, LookupError, RuntimeError, OverflowError) as error:
        return repr((type(error), vars(error)))


def with_lists(told, choose):
    """The arguments with lists for the tuples that are chosen by their number, at any depth, but for a thing."""
    seen = [0]

    def turned(value):
        if not isinstance(value, (tuple, list)):
            return value
        seen[0] += 1
        return ([list, tuple][choose(seen[0])])(turned(part) for part in value)

    return {name: value if name == "thing" else turned(value) for name, value in told.items()}


class Calls(unittest.TestCase):
    def test_every_function_returns_something(self):
        names = {function.__name__ for function, told in calls() if not answer_of(function, told).startswith("(<")}
        self.assertEqual(names, {name for functions in FUNCTIONS.values() for name in functions})

    def test_by_position_and_by_name_in_any_order(self):
        for function, told in calls():
            with self.subTest(function=function.__name__):
                answer = answer_of(function, told)
                self.assertEqual(answer_of(function, dict(reversed(told.items()))), answer)
                if not answer.startswith("(<"):
                    self.assertEqual(repr(function(*told.values())), answer)

    def test_the_same_call_returns_an_equal_result(self):
        for function, told in calls():
            self.assertEqual(answer_of(function, told), answer_of(function, copy.deepcopy(told)))

    def test_lists_for_tuples_at_any_depth(self):
        for function, told in calls():
            answer = answer_of(function, told)
            for choose in (lambda at: 0, lambda at: 1, lambda at: at % 2, lambda at: at % 3 == 0):
                with self.subTest(function=function.__name__):
                    self.assertEqual(answer_of(function, with_lists(told, choose)), answer)

    def test_arguments_do_not_change(self):
        for function, told in calls():
            for given in (told, with_lists(told, lambda at: 0), with_lists(told, lambda at: 1)):
                before = repr(given)
                answer_of(function, given)
                self.assertEqual(repr(given), before, function.__name__)

    def test_what_is_returned_belongs_to_the_caller(self):
        for function, told in calls():
            answer = answer_of(function, told)
            if not answer.startswith("["):
                continue
            given = with_lists(told, lambda at: 0)
            before = repr(given)
            found = function(**given)
            found.append("more")
            for part in found:
                if isinstance(part, list):
                    part.append("more")
            self.assertEqual(repr(given), before, function.__name__)
            self.assertEqual(answer_of(function, given), answer)

    def test_what_is_returned_holds_nothing_of_the_arguments_that_may_change(self):
        for function, told in calls():
            given = with_lists(told, lambda at: 0)
            if answer_of(function, given).startswith("(<"):
                continue
            found = function(**given)
            before = repr(found)
            for value in given.values():
                empty_out(value)
            self.assertEqual(repr(found), before, function.__name__)


def empty_out(value):
    """Takes everything out of a list, and out of the lists in it, or out of a dict."""
    if isinstance(value, list):
        for part in value:
            empty_out(part)
    if isinstance(value, (list, dict)):
        value.clear()


if __name__ == "__main__":
    unittest.main()

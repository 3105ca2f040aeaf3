import inspect
import random
import unittest

from passyards.blocks import groups
from passyards.errors import Blocked, Full, Inside, Known, NoOperation, NoPlace, NoTrain
from passyards.lines import is_line, is_standing, place_of, trains
from passyards.moves import moves
from passyards.yard import Yard
from samples import LINE, START, WIDE, as_lists
from search import may_leave, step, where

EMPTY = ((), (), ())
NOWHERE = (0, 5, -1, -4, 10 ** 9, 10 ** 5000, -(10 ** 5000))
NO_PLACES = (3, 4, -1, -3, 10 ** 9, 10 ** 5000, -(10 ** 5000))
METHODS = {"__init__": "(self, line)", "enter": "(self, train, *, side='left')", "leave": "(self, train)",
           "move": "(self, train, side)", "run": "(self, row)", "resize": "(self, place, size)", "undo": "(self)",
           "line": "(self)", "standing": "(self)", "moves": "(self)", "groups": "(self)", "operations": "(self)",
           "as_of": "(self, many)", "twin": "(self)", "log": "(self)", "__eq__": "(self, other)",
           "__len__": "(self)", "__repr__": "(self)"}


def started():
    """A Yard of the line with the standing that most examples start from, after six operations."""
    yard = Yard(LINE)
    for train in (2, 1):
        yard.enter(train)
    yard.enter(3, side="right")
    yard.move(3, "left")
    yard.enter(4, side="right")
    yard.move(4, "left")
    return yard


def seen(yard):
    """All that the queries answer, but for the log, written out with all kinds."""
    return repr((yard.line(), yard.standing(), yard.moves(), yard.groups(), yard.operations(), len(yard), repr(yard),
                 [(yard.as_of(many).line(), yard.as_of(many).standing(), yard.as_of(many).operations())
                  for many in range(yard.operations() + 1)]))


def both(name):
    return [("in", name), ("out", name)]


class Interface(unittest.TestCase):
    def test_each_method_stands_in_the_class_itself(self):
        for name, arguments in METHODS.items():
            with self.subTest(name=name):
                self.assertIn(name, vars(Yard))
                self.assertEqual(str(inspect.signature(vars(Yard)[name])), arguments)
        self.assertEqual((Yard.__module__, Yard.__bases__), ("passyards.yard", (object,)))


class Examples(unittest.TestCase):
    def test_the_example(self):
        y = Yard(LINE)
        self.assertIsNone(y.enter(5))
        self.assertEqual(y.move(5, "right"), 1)
        self.assertIsNone(y.enter(6, side="right"))
        self.assertEqual(y.standing(), ((), (5,), (6,)))
        self.assertEqual(y.leave(6), "right")
        self.assertIsNone(y.run([(5, "left")]))
        self.assertIsNone(y.resize(0, 1))
        self.assertEqual((y.operations(), len(y), repr(y)), (6, 1, "Yard(3 places, 1 trains)"))
        self.assertEqual((y.undo(), y.line(), y.as_of(3).standing()), (True, LINE, ((), (5,), (6,))))
        with self.assertRaises(Blocked) as caught:
            y.move(5, "left")
        self.assertEqual(caught.exception.pair, (5, "left"))
        self.assertIsNone(y.enter(7))
        with self.assertRaises(Full) as caught:
            y.resize(0, 1)
        self.assertEqual(caught.exception.place, 0)

    def test_at_first(self):
        for line in (LINE, WIDE, (("yard", 1),)):
            yard = Yard(line)
            empty = tuple(() for _ in line)
            self.assertEqual((yard.line(), yard.standing()), (line, empty))
            self.assertEqual((yard.moves(), yard.groups(), yard.operations(), len(yard)), ([], [], 0, 0))
            self.assertEqual((yard.log(), yard.undo(), repr(yard)), ([], False, f"Yard({len(line)} places, 0 trains)"))


class Operations(unittest.TestCase):
    def fails(self, yard, wrong, attribute, value, call):
        """The call raises that error and changes nothing but the log."""
        before, log = seen(yard), yard.log()
        with self.assertRaises(wrong) as caught:
            call()
        self.assertIs(type(caught.exception), wrong)
        self.assertEqual(getattr(caught.exception, attribute), value)
        self.assertEqual(seen(yard), before)
        name = yard.log()[-1][1]
        self.assertEqual(yard.log(), log + both(name))

    def test_enter_on_both_sides(self):
        yard = Yard((("track", 3), ("yard", 1), ("track", 3)))
        for train in (4, 9, 2):
            yard.enter(train)
        for train in (5, 7):
            yard.enter(train=train, side="right")
        yard.enter(6, side="right")
        self.assertEqual(yard.standing(), ((2, 9, 4), (), (5, 7, 6)))

    def test_enter_a_yard_where_trains_are_listed_in_order(self):
        yard = Yard((("yard", 3), ("yard", 3)))
        for train in (10, 2, 9):
            yard.enter(train)
        for train in (8, 0, 10 ** 9):
            yard.enter(train, side="right")
        self.assertEqual(yard.standing(), ((2, 9, 10), (0, 8, 10 ** 9)))

    def test_enter_one_place_from_both_sides(self):
        yard = Yard((("track", 4),))
        for train, side in ((5, "left"), (6, "right"), (7, "left"), (8, "right")):
            yard.enter(train, side=side)
        self.assertEqual(yard.standing(), ((7, 5, 6, 8),))

    def test_enter_takes_the_side_by_name_only(self):
        self.assertRaises(TypeError, Yard(LINE).enter, 5, "right")

    def test_enter_raises_known_then_full(self):
        yard = started()
        for train in (1, 2, 3, 4):
            for side in ("left", "right"):
                self.fails(yard, Known, "train", train, lambda: yard.enter(train, side=side))
        self.fails(yard, Full, "place", 0, lambda: yard.enter(0))
        yard.enter(0, side="right")
        self.fails(yard, Full, "place", 2, lambda: yard.enter(5, side="right"))
        self.fails(yard, Known, "train", 1, lambda: yard.enter(1))
        one = Yard((("yard", 1),))
        one.enter(3)
        for side in ("left", "right"):
            self.fails(one, Full, "place", 0, lambda: one.enter(4, side=side))

    def test_leave_on_both_sides(self):
        yard = started()
        yard.enter(7, side="right")
        self.assertEqual(yard.standing(), ((1, 2), (3, 4), (7,)))
        self.assertEqual([yard.leave(1), yard.leave(train=7), yard.leave(2)], ["left", "right", "left"])
        self.assertEqual(yard.standing(), ((), (3, 4), ()))

    def test_leave_where_both_sides_are_possible(self):
        for kind in ("track", "yard"):
            yard = Yard(((kind, 3),))
            yard.enter(5)
            self.assertEqual(yard.leave(5), "left")
        yard = Yard((("yard", 3),))
        for train in (5, 6, 7):
            yard.enter(train)
        self.assertEqual([yard.leave(train) for train in (6, 7, 5)], ["left"] * 3)
        track = Yard((("track", 3),))
        for train in (5, 6, 7):
            track.enter(train, side="right")
        self.fails(track, Inside, "train", 6, lambda: track.leave(6))
        self.assertEqual([track.leave(7), track.leave(5), track.leave(6)], ["right", "left", "left"])

    def test_leave_raises_no_train_then_inside(self):
        yard = started()
        for train in NOWHERE:
            self.fails(yard, NoTrain, "train", train, lambda: yard.leave(train))
        for train in (2, 3, 4):
            self.fails(yard, Inside, "train", train, lambda: yard.leave(train))
        ends = Yard((("track", 2), ("track", 2)))
        for train in (2, 1):
            ends.enter(train)
            ends.enter(train + 2, side="right")
        self.assertEqual(ends.standing(), ((1, 2), (4, 3)))
        for train in (2, 4):
            self.fails(ends, Inside, "train", train, lambda: ends.leave(train))
        self.assertEqual([ends.leave(3), ends.leave(4)], ["right", "right"])

    def test_move(self):
        yard = started()
        self.assertEqual(yard.move(3, "right"), 2)
        self.assertEqual(yard.move(side="right", train=2), 1)
        self.assertEqual(yard.standing(), ((1,), (2, 4), (3,)))
        self.assertEqual(yard.move(4, "left"), 0)
        self.assertEqual(yard.standing(), ((1, 4), (2,), (3,)))

    def test_move_raises_no_train_then_blocked(self):
        yard = started()
        for side in ("left", "right"):
            for train in NOWHERE:
                self.fails(yard, NoTrain, "train", train, lambda: yard.move(train, side))
            for train in (1, 2):
                self.fails(yard, Blocked, "pair", (train, side), lambda: yard.move(train, side))
        for train in (3, 4):
            self.fails(yard, Blocked, "pair", (train, "left"), lambda: yard.move(train, "left"))

    def test_run_is_one_operation(self):
        yard = started()
        for row in ([(4, "right"), (2, "right"), (3, "left")], [[3, "right"], (2, "left"), [4, "left"]], ()):
            before = yard.operations()
            self.assertIsNone(yard.run(row=row))
            self.assertEqual(yard.operations(), before + 1)
        self.assertEqual(yard.standing(), START)
        self.assertEqual([yard.undo(), yard.undo(), yard.standing()], [True, True, ((1, 3), (2,), (4,))])

    def test_the_empty_row_is_an_operation(self):
        yard = Yard(LINE)
        yard.run([])
        self.assertEqual((yard.operations(), yard.standing(), yard.log()), (1, EMPTY, both("run")))
        self.assertEqual([yard.undo(), yard.undo()], [True, False])

    def test_run_does_nothing_if_a_move_fails(self):
        yard = started()
        self.fails(yard, Blocked, "pair", (3, "right"), lambda: yard.run([(4, "right"), [3, "right"], (9, "left")]))
        self.fails(yard, NoTrain, "train", 9, lambda: yard.run([(4, "right"), (9, "left"), (3, "right")]))
        self.fails(yard, Blocked, "pair", (1, "left"), lambda: yard.run([(1, "left")]))
        self.fails(yard, NoTrain, "train", -1, lambda: yard.run([[-1, "left"]]))

    def test_run_of_many_moves(self):
        yard = started()
        yard.run([(4, "right"), (4, "left")] * 10000)
        self.assertEqual((yard.standing(), yard.operations()), (START, 7))
        row = [(4, "right"), (4, "left")] * 10000 + [(1, "left")]
        self.fails(yard, Blocked, "pair", (1, "left"), lambda: yard.run(row))

    def test_resize(self):
        yard = started()
        self.assertIsNone(yard.resize(size=30, place=2))
        self.assertIsNone(yard.resize(1, 3))
        self.assertEqual(yard.line(), (("track", 2), ("yard", 3), ("track", 30)))
        self.assertEqual((yard.standing(), yard.operations()), (START, 8))
        yard.enter(5, side="right")
        self.assertEqual(yard.move(5, "left"), 1)
        self.assertEqual([yard.undo() for _ in range(4)] + [yard.line()], [True] * 4 + [LINE])

    def test_resize_to_exactly_the_number_of_trains_and_below(self):
        yard = started()
        for place in (0, 1):
            yard.resize(place, 2)
            self.fails(yard, Full, "place", place, lambda: yard.resize(place, 1))
        yard.resize(2, 1)
        yard.resize(0, 5)
        yard.resize(0, 2)
        self.assertEqual((yard.line(), yard.operations()), (LINE, 11))

    def test_resize_raises_no_place_then_full(self):
        yard = started()
        for place in NO_PLACES:
            self.fails(yard, NoPlace, "place", place, lambda: yard.resize(place, 1))

    def test_resize_changes_the_groups(self):
        yard = started()
        self.assertEqual(yard.groups(), [(1,), (2, 3, 4)])
        yard.resize(2, 2)
        self.assertEqual(yard.groups(), [(1, 2, 3, 4)])
        yard.undo()
        self.assertEqual(yard.groups(), [(1,), (2, 3, 4)])

    def test_undo(self):
        yard = started()
        standings = [yard.as_of(many).standing() for many in range(7)]
        for many in range(6, 0, -1):
            self.assertEqual((yard.operations(), yard.standing()), (many, standings[many]))
            self.assertIs(yard.undo(), True)
        for _ in range(3):
            self.assertIs(yard.undo(), False)
            self.assertEqual((yard.operations(), yard.standing()), (0, EMPTY))
        yard.enter(8)
        self.assertEqual([yard.undo(), yard.undo()], [True, False])

    def test_sixty_operations_undone_one_by_one(self):
        yard = Yard(WIDE)
        states = [(yard.line(), yard.standing())]
        for train in range(30):
            yard.enter(train, side=("left", "right")[train % 2])
            states.append((yard.line(), yard.standing()))
            if train % 3 == 0:
                yard.resize(15, 30 - train % 5)
            elif train % 3 == 1:
                yard.run([])
            else:
                yard.run(yard.moves()[:1])
            states.append((yard.line(), yard.standing()))
        self.assertEqual((yard.operations(), len(yard), repr(yard)), (60, 30, "Yard(16 places, 30 trains)"))
        for many in range(60, 0, -1):
            self.assertEqual((yard.line(), yard.standing()), states[many])
            self.assertIs(yard.undo(), True)
        self.assertEqual((yard.line(), yard.standing()), states[0])
        self.assertIs(yard.undo(), False)


class Queries(unittest.TestCase):
    def test_as_of(self):
        yard = started()
        for many in range(7):
            part = yard.as_of(many)
            self.assertIsInstance(part, Yard)
            self.assertEqual((part.operations(), part.log()), (many, []))
            for left in range(many, 0, -1):
                self.assertEqual(part.standing(), yard.as_of(left).standing())
                self.assertIs(part.undo(), True)
            self.assertEqual((part.standing(), part.undo()), (EMPTY, False))
        self.assertEqual((yard.standing(), yard.operations()), (START, 6))

    def test_as_of_0_and_of_all(self):
        yard = started()
        self.assertEqual(yard.as_of(0), Yard(LINE))
        self.assertEqual(seen(yard.as_of(many=6)), seen(yard))
        yard.resize(0, 9)
        self.assertEqual((yard.as_of(6).line(), yard.as_of(7).line()), (LINE, (("track", 9),) + LINE[1:]))

    def test_only_operations_in_effect_count(self):
        yard = started()
        yard.undo()
        yard.leave(1)
        self.assertRaises(Blocked, yard.move, 2, "left")
        self.assertEqual(yard.as_of(6).standing(), yard.standing())
        self.assertRaises(NoOperation, yard.as_of, 7)

    def test_no_operation(self):
        yard = started()
        log = yard.log()
        for many in (7, 8, -1, -6, 10 ** 9, 10 ** 5000, -(10 ** 5000)):
            with self.assertRaises(NoOperation) as caught:
                yard.as_of(many)
            self.assertEqual(caught.exception.many, many)
        self.assertEqual(yard.log(), log)
        for many in (1, -1):
            self.assertRaises(NoOperation, Yard(LINE).as_of, many)

    def test_twin_and_as_of_are_yards_of_their_own(self):
        yard = started()
        before = seen(yard)
        log = yard.log()
        for other in (yard.twin(), yard.as_of(6), yard.as_of(3)):
            other.run([])
            other.leave(1)
            other.resize(0, 30)
            other.undo()
            self.assertEqual((seen(yard), yard.log()), (before, log))
            self.assertEqual(other.log(), both("run") + both("leave") + both("resize") + both("undo"))
        twin = yard.twin()
        yard.leave(1)
        self.assertEqual(seen(twin), before)
        self.assertEqual(twin.log(), [])

    def test_log(self):
        yard = Yard(LINE)
        calls = []
        for name, call in (("enter", lambda: yard.enter(5)), ("enter", lambda: yard.enter(5)),
                           ("leave", lambda: yard.leave(9)), ("move", lambda: yard.move(5, "right")),
                           ("move", lambda: yard.move(6, "right")), ("run", lambda: yard.run([])),
                           ("run", lambda: yard.run([(5, "left"), (5, "left")])), ("resize", lambda: yard.resize(0, 3)),
                           ("resize", lambda: yard.resize(5, 3)), ("undo", yard.undo), ("undo", yard.undo),
                           ("undo", yard.undo), ("undo", yard.undo), ("undo", yard.undo),
                           ("enter", lambda: yard.enter(4)), ("leave", lambda: yard.leave(4))):
            try:
                call()
            except (ValueError, LookupError, RuntimeError, OverflowError):
                pass
            calls += both(name)
            self.assertEqual(yard.log(), calls)
            self.assertTrue(all(type(pair) is tuple for pair in yard.log()))

    def test_queries_are_not_logged_and_change_nothing(self):
        yard = started()
        log = yard.log()
        self.assertEqual(seen(yard), seen(yard))
        yard.twin(), yard.as_of(2), yard == yard, len(yard), repr(yard), yard.log()
        self.assertEqual(yard.log(), log)

    def test_equality(self):
        yard = started()
        for same in (yard, yard.twin(), yard.as_of(6), started()):
            self.assertTrue(yard == same and same == yard)
            self.assertFalse(yard != same)
        other = Yard(LINE)
        other.run([])
        self.assertTrue(other == Yard(as_lists(LINE)))
        for different in (yard.as_of(5), Yard(LINE), None, 0, 4, START, (LINE, START), "Yard(3 places, 4 trains)",
                          [yard], True, False):
            self.assertFalse(yard == different or different == yard)
            self.assertTrue(yard != different and different != yard)
        wider = yard.twin()
        wider.resize(0, 3)
        self.assertFalse(yard == wider)
        self.assertFalse(Yard(LINE) == Yard(LINE[:2]))
        self.assertFalse(Yard((("yard", 2),)) == Yard((("track", 2),)))

    def test_a_yard_equals_nothing_else(self):
        class Anything:
            def __eq__(self, other):
                return True

        self.assertFalse(Yard(LINE) == Anything())

    def test_len_and_repr(self):
        yard = Yard((("yard", 30),))
        for many in range(31):
            self.assertEqual((len(yard), repr(yard), str(yard)), (many, *[f"Yard(1 places, {many} trains)"] * 2))
            if many < 30:
                yard.enter(many)

    def test_moves_and_groups(self):
        yard = started()
        self.assertEqual(yard.moves(), [(3, "right"), (4, "right")])
        self.assertEqual(yard.groups(), [(1,), (2, 3, 4)])


class WhoseTheValuesAre(unittest.TestCase):
    def test_arguments_are_copied(self):
        line = as_lists(LINE)
        yard = Yard(line=line)
        line[0][1] = 9
        line.pop()
        self.assertEqual(yard.line(), LINE)
        yard.enter(5)
        row = [[5, "right"], [5, "right"]]
        yard.run(row)
        row[0][0] = 6
        row.clear()
        self.assertEqual((yard.standing(), yard.as_of(2).standing()), (((), (), (5,)), ((), (), (5,))))
        self.assertTrue(is_line(yard.line()) and is_standing(yard.line(), yard.standing()))

    def test_arguments_do_not_change(self):
        line, row = as_lists(LINE), [[5, "right"], (5, "left")]
        yard = Yard(line)
        yard.enter(5)
        yard.run(row)
        yard.resize(0, 7)
        self.assertEqual((line, row), (as_lists(LINE), [[5, "right"], (5, "left")]))

    def test_returned_lists_have_no_effect(self):
        yard = started()
        before, log = seen(yard), yard.log()
        for query in (yard.moves, yard.groups, yard.log):
            found = query()
            self.assertIs(type(found), list)
            found.append("more")
            found.pop(0)
        self.assertEqual((seen(yard), yard.log()), (before, log))


class Model:
    """A yard kept by plain means: a list of the operations in effect, all played again for each answer."""

    def __init__(self, line):
        self.beginning = line
        self.done = []

    def state(self, many=None):
        line, standing = self.beginning, tuple(() for _ in self.beginning)
        for name, told in self.done[:many]:
            line, standing = played(line, standing, name, told)
        return line, standing

    def do(self, name, told):
        """Whether the operation is possible; it is in effect then."""
        if name == "undo":
            return bool(self.done and self.done.pop())
        if played(*self.state(), name, told) is None:
            return False
        self.done.append((name, told))
        return True


def played(line, standing, name, told):
    """Line and standing after the operation, or None if it is not possible."""
    if name == "enter":
        train, side = told
        # It comes by a move from a place of its own outside the line.
        train_in, none = ((train,),), ((),)
        outside = (("track", 1),)
        if train in trains(standing):
            return None
        if side == "left":
            after = step(outside + line, train_in + standing, 0, train, 1)
            return None if after is None else (line, after[1:])
        after = step(line + outside, standing + train_in, len(line), train, -1)
        return None if after is None else (line, after[:-1])
    if name == "leave":
        train, = told
        for place, side in ((0, -1), (len(line) - 1, 1)):
            if train in standing[place] and may_leave(line[place][0], standing[place], train, side):
                held = tuple(other for other in standing[place] if other != train)
                return line, standing[:place] + (held,) + standing[place + 1:]
        return None
    if name == "resize":
        place, size = told
        if not 0 <= place < len(line) or len(standing[place]) > size:
            return None
        return line[:place] + ((line[place][0], size),) + line[place + 1:], standing
    for train, side in told[0] if name == "run" else [told]:
        if not any(train in held for held in standing):
            return None
        standing = step(line, standing, where(standing, train), train, 1 if side == "right" else -1)
        if standing is None:
            return None
    return line, standing


class AgainstAModel(unittest.TestCase):
    """Guarantee (g): whatever was done, undone and failed, only the operations in effect count."""

    def test_random_operations(self):
        for seed in range(40):
            self.check(random.Random(seed))

    def random_told(self, chance, yard):
        name = chance.choice(["enter", "enter", "enter", "leave", "move", "move", "move", "run", "resize", "undo"])
        side = chance.choice(["left", "right"])
        train = chance.randrange(8)
        if name == "run":
            many = chance.randrange(3)
            return name, ([(chance.randrange(8), chance.choice(["left", "right"])) for _ in range(many)],)
        return name, {"enter": (train, side), "leave": (train,), "move": (train, side), "undo": (),
                      "resize": (chance.randrange(-1, 5), chance.randrange(1, 4))}[name]

    def call(self, yard, name, told):
        """Whether the operation did not fail; undo answers that itself."""
        try:
            if name == "enter":
                yard.enter(told[0], side=told[1])
                return True
            found = getattr(yard, name)(*told)
        except (Known, Full, NoTrain, Inside, Blocked, NoPlace):
            return False
        if name == "move":
            self.assertEqual(found, place_of(yard.standing(), told[0]))
        return found if name == "undo" else True

    def check(self, chance):
        kinds = [chance.choice(["track", "yard"]) for _ in range(chance.randrange(1, 5))]
        line = tuple((kind, chance.randrange(1, 4)) for kind in kinds)
        yard, model, log = Yard(line), Model(line), []
        for _ in range(80):
            name, told = self.random_told(chance, yard)
            self.assertEqual(self.call(yard, name, told), model.do(name, told))
            log += both(name)
            self.assertEqual((yard.line(), yard.standing()), model.state())
            self.assertEqual((yard.operations(), len(yard)), (len(model.done), len(trains(yard.standing()))))
            self.assertEqual((yard.moves(), yard.groups()),
                             (moves(*model.state()), groups(*model.state())))
        self.assertEqual(yard.log(), log)
        new = Yard(line)
        for many, (name, told) in enumerate(model.done):
            part = yard.as_of(many)
            self.assertEqual((part.line(), part.standing()), model.state(many))
            self.assertEqual(part, new)
            self.assertTrue(self.call(new, name, told))
        self.assertEqual(seen(new), seen(yard))
        self.assertEqual(seen(yard.twin()), seen(yard))


if __name__ == "__main__":
    unittest.main()

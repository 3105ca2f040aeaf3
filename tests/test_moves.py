import unittest

from passyards.errors import Blocked, NoTrain
from passyards.lines import is_standing, trains
from passyards.moves import back, can_move, is_move, is_row, moved, moves, run
from samples import LINE, START, WIDE, WIDE_START, as_lists
from search import every_standing, small_lines, steps
from things import STRANGE, Thing, near_misses

NOWHERE = (0, 5, -1, -4, 10 ** 9, 10 ** 5000, -(10 ** 5000))
OPPOSITE = {"left": "right", "right": "left"}


class CanMove(Thing):
    def test_examples(self):
        self.check(can_move(LINE, START, 3, "right"), True)
        self.check(can_move(LINE, START, 3, "left"), False)

    def test_at_the_ends_of_the_line(self):
        line = (("yard", 2), ("track", 3), ("yard", 2))
        standing = ((1,), (2,), (3,))
        self.check(can_move(line, standing, 1, "left"), False)
        self.check(can_move(line, standing, 1, "right"), True)
        self.check(can_move(line, standing, 3, "left"), True)
        self.check(can_move(line, standing, 3, "right"), False)

    def test_from_a_track_only_the_train_at_that_end(self):
        line = (("track", 1), ("track", 3), ("track", 1))
        standing = ((), (7, 3, 5), ())
        self.assertEqual([can_move(line, standing, train, "left") for train in (7, 3, 5)], [True, False, False])
        self.assertEqual([can_move(line, standing, train, "right") for train in (7, 3, 5)], [False, False, True])

    def test_from_a_yard_any_train(self):
        line = (("track", 1), ("yard", 3), ("track", 1))
        for side in ("left", "right"):
            self.assertEqual([can_move(line, ((), (3, 5, 7), ()), train, side) for train in (3, 5, 7)], [True] * 3)

    def test_into_a_full_place(self):
        for kind in ("track", "yard"):
            for size in (1, 2, 30):
                full = tuple(range(1, size + 1))
                self.check(can_move(((kind, size), ("track", 1)), (full, (0,)), 0, "left"), False)
                self.check(can_move((("yard", 1), (kind, size)), ((0,), full), 0, "right"), False)
                self.check(can_move(((kind, size), ("track", 1)), (full[1:], (0,)), 0, "left"), True)
                self.check(can_move((("yard", 1), (kind, size)), ((0,), full[1:]), 0, "right"), True)

    def test_one_place(self):
        for kind in ("track", "yard"):
            for side in ("left", "right"):
                self.check(can_move(((kind, 3),), ((1, 2),), 1, side), False)

    def test_a_train_that_stands_nowhere(self):
        for train in NOWHERE:
            for side in ("left", "right"):
                for standing in (START, ((), (), ())):
                    with self.assertRaises(NoTrain) as caught:
                        can_move(LINE, standing, train, side)
                    self.assertEqual(caught.exception.train, train)

    def test_by_name_and_with_lists(self):
        self.check(can_move(side="right", train=3, standing=as_lists(START), line=as_lists(LINE)), True)
        self.check(can_move(as_lists(LINE), as_lists(START), 2, "right"), False)


class Moves(unittest.TestCase):
    def test_example(self):
        self.assertEqual(moves(LINE, START), [(3, "right"), (4, "right")])

    def test_ascending_by_train_then_side(self):
        self.assertEqual(moves((("track", 1), ("yard", 2), ("track", 1)), ((), (10, 9), ())),
                         [(9, "left"), (9, "right"), (10, "left"), (10, "right")])
        self.assertEqual(moves(LINE, ((9,), (2,), ())), [(2, "left"), (2, "right"), (9, "right")])

    def test_no_trains_one_place_and_full_lines(self):
        self.assertEqual(moves(LINE, ((), (), ())), [])
        self.assertEqual(moves((("yard", 30),), (tuple(range(29)),)), [])
        self.assertEqual(moves(LINE, ((1, 2), (3, 4), (5,))), [])
        self.assertEqual(moves((("track", 1), ("yard", 1)), ((3,), ())), [(3, "right")])

    def test_wide(self):
        expected = [(2 * place, side) for place in range(15) for side in ("left", "right")]
        expected += [(2 * place + 1, side) for place in range(15) for side in ("left", "right")]
        tracks = [place for place in range(15) if place % 3 != 1]
        blocked = {(2 * place, "right") for place in tracks} | {(2 * place + 1, "left") for place in tracks}
        blocked.add((0, "left"))
        self.assertEqual(moves(WIDE, WIDE_START), sorted(set(expected) - blocked))

    def test_agree_with_can_move_and_with_the_search(self):
        for line in small_lines():
            for standing in every_standing(line, min(3, sum(size for _, size in line))):
                found = moves(line, standing)
                asked = [(train, side) for train in trains(standing) for side in ("left", "right")
                         if can_move(line, standing, train, side)]
                self.assertEqual(found, sorted(asked))
                self.assertEqual(sorted(moved(line, standing, move) for move in found), sorted(steps(line, standing)))

    def test_belongs_to_the_caller(self):
        found = moves(as_lists(LINE), as_lists(START))
        self.assertEqual([type(found)] + [type(move) for move in found], [list, tuple, tuple])
        found.clear()
        self.assertEqual(moves(LINE, START), [(3, "right"), (4, "right")])


class Moved(unittest.TestCase):
    def test_examples(self):
        self.assertEqual(moved(LINE, START, (4, "right")), ((1, 2), (3,), (4,)))
        with self.assertRaises(Blocked) as caught:
            moved(LINE, START, (2, "right"))
        self.assertEqual(caught.exception.pair, (2, "right"))

    def test_into_a_track_at_the_near_end(self):
        line = (("track", 3), ("track", 3))
        self.assertEqual(moved(line, ((5, 1), (4, 9)), (1, "right")), ((5,), (1, 4, 9)))
        self.assertEqual(moved(line, ((5, 1), (4, 9)), (4, "left")), ((5, 1, 4), (9,)))
        self.assertEqual(moved(line, ((), (4, 9)), (4, "left")), ((4,), (9,)))

    def test_into_a_yard_where_it_is_listed_in_order(self):
        line = (("yard", 4), ("track", 3), ("yard", 4))
        self.assertEqual(moved(line, ((2, 6), (4, 1), (3, 9)), (4, "left")), ((2, 4, 6), (1,), (3, 9)))
        self.assertEqual(moved(line, ((2, 6), (4, 1), (3, 9)), (1, "right")), ((2, 6), (4,), (1, 3, 9)))
        self.assertEqual(moved(line, ((2, 6), (4, 10), (3, 9)), (10, "right")), ((2, 6), (4,), (3, 9, 10)))
        self.assertEqual(moved(line, ((2, 6), (4, 1), (3, 9)), (6, "right")), ((2,), (6, 4, 1), (3, 9)))

    def test_a_train_that_stands_nowhere_is_said_first(self):
        for train in NOWHERE:
            for side in ("left", "right"):
                with self.assertRaises(NoTrain) as caught:
                    moved(LINE, ((1, 2), (3, 4), (6,)), (train, side))
                self.assertEqual(caught.exception.train, train)

    def test_the_pair_is_the_move_as_a_tuple(self):
        for move in ((1, "left"), [1, "left"], (1, "right"), [4, "left"]):
            with self.assertRaises(Blocked) as caught:
                moved(LINE, START, move)
            self.assertIs(type(caught.exception.pair), tuple)
            self.assertEqual(caught.exception.pair, tuple(move))

    def test_lists_and_names(self):
        standing = as_lists(START)
        after = moved(move=[4, "right"], standing=standing, line=as_lists(LINE))
        self.assertEqual(after, ((1, 2), (3,), (4,)))
        self.assertTrue(is_standing(LINE, after))
        self.assertEqual(standing, as_lists(START))

    def test_the_other_side_takes_it_back(self):
        for line in small_lines():
            for standing in every_standing(line, min(3, sum(size for _, size in line))):
                for train, side in moves(line, standing):
                    after = moved(line, standing, (train, side))
                    self.assertTrue(is_standing(line, after))
                    self.assertTrue(can_move(line, after, train, OPPOSITE[side]))
                    self.assertEqual(moved(line, after, (train, OPPOSITE[side])), standing)

    def test_wide(self):
        after = moved(WIDE, WIDE_START, (29, "right"))
        self.assertEqual(after, WIDE_START[:14] + ((28,), (29,)))


class Run(unittest.TestCase):
    def test_example(self):
        self.assertEqual(run(LINE, START, [(4, "right"), (2, "right"), (3, "left")]), ((1, 3), (2,), (4,)))

    def test_the_empty_row(self):
        self.assertEqual(run(LINE, START, []), START)
        self.assertEqual(run(as_lists(LINE), as_lists(START), ()), START)
        self.assertEqual(run((("yard", 1),), ((),), []), ((),))

    def test_lists_and_names(self):
        standing, row = as_lists(START), [[4, "right"], (2, "right")]
        self.assertEqual(run(row=row, standing=standing, line=as_lists(LINE)), ((1,), (2, 3), (4,)))
        self.assertEqual(run(LINE, START, ((4, "right"), [2, "right"])), ((1,), (2, 3), (4,)))
        self.assertEqual((standing, row), (as_lists(START), [[4, "right"], (2, "right")]))

    def test_the_first_move_that_fails(self):
        with self.assertRaises(Blocked) as caught:
            run(LINE, START, [(4, "right"), [3, "right"], (9, "left")])
        self.assertEqual(caught.exception.pair, (3, "right"))
        with self.assertRaises(NoTrain) as caught:
            run(LINE, START, [(4, "right"), (9, "left"), (3, "right")])
        self.assertEqual(caught.exception.train, 9)
        with self.assertRaises(Blocked) as caught:
            run(LINE, START, [(1, "left")])
        self.assertEqual(caught.exception.pair, (1, "left"))

    def test_a_move_that_only_an_earlier_one_makes_possible(self):
        self.assertEqual(run(LINE, START, [(4, "right"), (2, "right")]), ((1,), (2, 3), (4,)))
        with self.assertRaises(Blocked):
            run(LINE, START, [(2, "right"), (4, "right")])

    def test_many_moves(self):
        there = [(29, "right"), (28, "right"), (27, "right")]
        row = (there + [(27, "left"), (28, "left"), (29, "left")]) * 3334
        self.assertGreater(len(row), 20000)
        self.assertEqual(run(WIDE, WIDE_START, row), WIDE_START)
        self.assertEqual(run(WIDE, WIDE_START, row + there), run(WIDE, WIDE_START, there))
        with self.assertRaises(Blocked) as caught:
            run(WIDE, WIDE_START, row + [(0, "left")])
        self.assertEqual(caught.exception.pair, (0, "left"))


class Back(unittest.TestCase):
    def test_example(self):
        self.assertEqual(back([(4, "right"), (2, "right")]), [(2, "left"), (4, "left")])

    def test_the_empty_row(self):
        self.assertEqual(back([]), [])
        self.assertEqual(back(row=()), [])

    def test_it_takes_a_row_back(self):
        row = [(4, "right"), (2, "right"), (3, "left")]
        self.assertEqual(back(row), [(3, "right"), (2, "left"), (4, "left")])
        self.assertEqual(run(LINE, run(LINE, START, row), back(row)), START)
        self.assertEqual(back(back(row)), row)

    def test_lists_and_owner(self):
        row = [[4, "right"], (2, "left")]
        found = back(row=row)
        self.assertEqual(found, [(2, "right"), (4, "left")])
        self.assertEqual([type(found)] + [type(move) for move in found], [list, tuple, tuple])
        found.clear()
        self.assertEqual(row, [[4, "right"], (2, "left")])
        empty = []
        self.assertIsNot(back(empty), empty)

    def test_many_moves(self):
        row = [(7, "left"), (8, "right")] * 10000
        self.assertEqual(back(row), [(8, "left"), (7, "right")] * 10000)


class Forms(Thing):
    def test_moves(self):
        for thing in ((0, "left"), (1, "right"), (10 ** 5000, "left")):
            self.check(is_move(thing), True)
            self.check(is_row([thing, thing]), True)
        self.check(is_row([]), True)

    def test_other_things(self):
        self.all_of(STRANGE + near_misses((1, "left")) + near_misses((0, "right")), is_move)
        self.all_of(STRANGE + near_misses([(1, "left"), (0, "right")]), is_row)


if __name__ == "__main__":
    unittest.main()

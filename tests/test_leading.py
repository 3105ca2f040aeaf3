import itertools
import unittest

from passyards.blocks import blocks, groups, order
from passyards.errors import Barred, OtherTrains
from passyards.leading import bar, leads, row_to, shows_bar, shows_row
from passyards.lines import capacity
from passyards.moves import back, run
from samples import LINE, START, WIDE, WIDE_START, as_lists
from search import every_standing, lots, played, small_lines
from things import STRANGE, Thing, near_misses

OTHER = ((2, 1), (3, 4), ())
NEAR = ((1, 3), (4,), (2,))
# Lines that are longer than the small ones: several yards, yards and tracks of size 1 between them.
LONGER = [(("yard", 2), ("track", 1), ("yard", 2), ("track", 1)),
          (("track", 1), ("yard", 1), ("yard", 2), ("track", 2)),
          (("yard", 1), ("yard", 2), ("track", 1), ("yard", 1)),
          (("track", 2), ("yard", 2), ("track", 2), ("yard", 1)),
          (("track", 1), ("yard", 2), ("track", 1), ("yard", 2), ("track", 1))]


def turned(line, standing):
    """A standing with the trains of each block in the opposite order, each place as full as before."""
    row = order(line, standing)
    for first, last in blocks(line, len(row)):
        row[first:last + 1] = reversed(row[first:last + 1])
    found = []
    for (kind, _), held in zip(line, standing):
        found.append(tuple(sorted(row[:len(held)]) if kind == "yard" else row[:len(held)]))
        row = row[len(held):]
    return tuple(found)


class OtherTrainsFirst(unittest.TestCase):
    def test_all_functions(self):
        pairs = [(START, ((1, 2), (3,), ())), (((1, 2), (3,), ()), START), (START, ((1, 2), (3, 5), ())),
                 (((), (), ()), ((7,), (), ())), (((0,), (), ()), ((), (), (10 ** 9,))), (START, ((5, 2), (3, 4), ()))]
        for one, other in pairs + [(as_lists(one), as_lists(other)) for one, other in pairs]:
            for ask in (leads, bar, row_to):
                with self.subTest(ask=ask, one=one, other=other):
                    self.assertRaises(OtherTrains, ask, LINE, one, other)
            for thing in STRANGE + [[], (0, (1,), (2,)), [(4, "right")]]:
                self.assertRaises(OtherTrains, shows_bar, LINE, one, other, thing)
                self.assertRaises(OtherTrains, shows_row, LINE, one, other, thing)


class Leads(Thing):
    def test_examples(self):
        self.check(leads(LINE, START, ((1, 3), (4,), (2,))), True)
        self.check(leads(LINE, START, OTHER), False)

    def test_itself(self):
        for line, standing in ((LINE, START), (LINE, ((), (), ())), (WIDE, WIDE_START), ((("yard", 1),), ((),))):
            self.check(leads(line, standing, standing), True)

    def test_one_place(self):
        self.check(leads((("track", 2),), ((1, 2),), ((2, 1),)), False)
        self.check(leads((("track", 1),), ((1,),), ((1,),)), True)
        self.check(leads((("yard", 2),), ((1, 2),), ((1, 2),)), True)

    def test_full_lines(self):
        line = (("track", 1), ("yard", 2), ("yard", 1), ("track", 1))
        self.check(leads(line, ((1,), (2, 3), (4,), (5,)), ((1,), (2, 3), (4,), (5,))), True)
        self.check(leads(line, ((1,), (2, 3), (4,), (5,)), ((2,), (1, 3), (4,), (5,))), False)
        self.check(leads(line, ((1,), (2, 3), (4,), (5,)), ((1,), (2, 3), (5,), (4,))), False)

    def test_wide(self):
        self.check(leads(WIDE, WIDE_START, turned(WIDE, WIDE_START)), True)
        line = (("track", 30), ("yard", 1)) * 8
        standing = tuple((place, 15 + place) if place % 2 == 0 else () for place in range(15)) + ((),)
        self.check(leads(line, standing, standing), True)
        self.check(leads(line, standing, ((15, 0),) + standing[1:]), False)

    def test_by_name_and_with_lists(self):
        self.check(leads(other=as_lists(OTHER), one=START, line=as_lists(LINE)), False)
        self.check(leads(as_lists(LINE), START, as_lists(NEAR)), True)


class Bar(Thing):
    def test_examples(self):
        self.assertEqual(bar(LINE, START, OTHER), (0, (1,), (2,)))
        self.check(shows_bar(LINE, START, OTHER, (1, (2, 3, 4), (1, 3, 4))), True)

    def test_none_if_one_leads_to_the_other(self):
        for line, one, other in ((LINE, START, START), (LINE, START, NEAR), (LINE, ((), (), ()), ((), (), ())),
                                 (WIDE, WIDE_START, turned(WIDE, WIDE_START))):
            self.assertIsNone(bar(line, one, other))
            self.all_of(STRANGE + [[], (), (0, (1,), (1,)), (0, (1,), (2,))],
                        lambda thing: shows_bar(line, one, other, thing))

    def test_the_first_block_that_differs(self):
        line = (("track", 3), ("yard", 2))
        self.assertEqual(blocks(line, 5), [(0, 0), (1, 1), (2, 2), (3, 4)])
        self.assertEqual(bar(line, ((9, 7, 5), (1, 3)), ((9, 5, 7), (1, 3))), (1, (7,), (5,)))
        self.assertEqual(bar(line, ((9, 7, 5), (1, 3)), ((9, 7, 1), (3, 5))), (2, (5,), (1,)))

    def test_every_block_that_differs_makes_a_bar(self):
        line = (("track", 3), ("yard", 2))
        one, other = ((9, 7, 5), (1, 3)), ((9, 5, 7), (1, 3))
        for thing in ((1, (7,), (5,)), (2, (5,), (7,))):
            self.check(shows_bar(line, one, other, thing), True)
            self.all_of(near_misses(thing), lambda wrong: shows_bar(line, one, other, wrong))
        self.all_of([(0, (9,), (9,)), (3, (1, 3), (1, 3)), (1, (5,), (7,)), (2, (7,), (5,)), (-2, (5,), (7,)),
                     (4, (), ()), (-1, (1, 3), (1, 3)), (1, (7,), (5,), ()), (1, (7,)), (1, (5,), (5,))],
                    lambda thing: shows_bar(line, one, other, thing))

    def test_numbers_that_python_takes_for_true_and_false(self):
        line, one, other = (("track", 2), ("track", 1)), ((1, 0), ()), ((0, 1), ())
        self.check(shows_bar(line, one, other, (0, (1,), (0,))), True)
        self.check(shows_bar(line, one, other, (1, (0,), (1,))), True)
        self.all_of([(False, (1,), (0,)), (0, (True,), (0,)), (0, (1,), (False,)), (True, (0,), (1,))],
                    lambda thing: shows_bar(line, one, other, thing))

    def test_groups_must_ascend(self):
        self.all_of([(1, (3, 2, 4), (1, 3, 4)), (1, (2, 3, 4), (4, 3, 1)), (1, (2, 3, 4), (1, 3, 3))],
                    lambda thing: shows_bar(LINE, START, OTHER, thing))

    def test_other_things(self):
        self.all_of(STRANGE + [[], ()] + near_misses((1, (2, 3, 4), (1, 3, 4))),
                    lambda thing: shows_bar(LINE, START, OTHER, thing))

    def test_by_name_and_with_lists(self):
        found = bar(other=as_lists(OTHER), one=as_lists(START), line=as_lists(LINE))
        self.assertEqual(repr(found), "(0, (1,), (2,))")
        self.check(shows_bar(thing=found, other=as_lists(OTHER), one=as_lists(START), line=as_lists(LINE)), True)
        self.check(shows_bar(as_lists(LINE), as_lists(START), as_lists(OTHER), as_lists(found)), False)

    def test_wide(self):
        line = (("track", 30), ("yard", 1)) * 8
        standing = tuple((place, 15 + place) if place % 2 == 0 else () for place in range(15)) + ((),)
        other = standing[:14] + ((29, 14), ())
        self.assertEqual(bar(line, standing, other), (14, (14,), (29,)))
        self.check(shows_bar(line, standing, other, (15, (29,), (14,))), True)


class RowTo(Thing):
    def check_row(self, line, one, other):
        row = row_to(line, one, other)
        self.assertEqual(played(line, one, row), other)
        self.assertEqual(run(line, one, row), other)
        self.assertEqual(run(line, other, back(row)), one)
        self.check(shows_row(line, one, other, row), True)
        self.assertEqual({type(move) for move in row} | {type(row)}, {list, tuple} if row else {list})
        return row

    def test_example(self):
        with self.assertRaises(Barred) as caught:
            row_to(LINE, START, OTHER)
        self.assertEqual(caught.exception.block, 0)
        self.check_row(LINE, START, NEAR)

    def test_the_block_is_the_one_of_bar(self):
        line = (("track", 3), ("yard", 2))
        for other in (((9, 5, 7), (1, 3)), ((9, 7, 1), (3, 5)), ((1, 3, 5), (7, 9))):
            with self.assertRaises(Barred) as caught:
                row_to(line, ((9, 7, 5), (1, 3)), other)
            self.assertEqual(caught.exception.block, bar(line, ((9, 7, 5), (1, 3)), other)[0])

    def test_nothing_to_do(self):
        for line, standing in ((LINE, START), (LINE, ((), (), ())), (WIDE, WIDE_START), ((("track", 1),), ((),)),
                               ((("yard", 3),), ((1, 2),)), ((("track", 2),), ((2, 1),))):
            self.assertEqual(self.check_row(line, standing, standing), [])

    def test_full_lines(self):
        line = (("track", 2), ("yard", 2), ("yard", 3))
        full = ((4, 3), (1, 2), (0, 5, 6))
        self.assertEqual(self.check_row(line, full, full), [])
        for other in (((3, 4), (1, 2), (0, 5, 6)), ((4, 3), (1, 5), (0, 2, 6))):
            self.assertRaises(Barred, row_to, line, full, other)

    def test_by_name_and_with_lists(self):
        row = row_to(other=as_lists(NEAR), one=as_lists(START), line=as_lists(LINE))
        self.assertEqual(row, row_to(LINE, START, NEAR))
        self.check(shows_row(thing=row, other=as_lists(NEAR), one=as_lists(START), line=as_lists(LINE)), True)

    def test_wide(self):
        other = turned(WIDE, WIDE_START)
        self.assertNotEqual(order(WIDE, other), order(WIDE, WIDE_START))
        self.check_row(WIDE, WIDE_START, other)

    def test_one_yard_among_tracks(self):
        for size in (2, 3, 30):
            for at in (0, 7, 15):
                line = tuple(("yard", size) if place == at else ("track", 4) for place in range(16))
                standing = tuple(tuple(range(2 * place, 2 * place + 2)) for place in range(15)) + ((),)
                self.check_row(line, standing, turned(line, standing))

    def test_hardly_any_room(self):
        for free in (1, 2, 3):
            line = (("yard", 2), ("track", 3), ("yard", 1), ("yard", 3), ("track", 1), ("yard", 2)) * 2
            row, standing = list(range(capacity(line) - free)), []
            for kind, size in line:
                standing.append(tuple(row[:size]))
                row = row[size:]
            self.check_row(line, tuple(standing), turned(line, tuple(standing)))

    def test_trains_of_a_yard_that_leave_it_in_another_order(self):
        line = (("yard", 30), ("track", 30))
        there = (tuple(range(30)), ())
        self.check_row(line, there, ((), tuple(range(30))))
        self.check_row(line, there, ((), tuple(reversed(range(30)))))
        self.check_row(line, ((), tuple(reversed(range(30)))), there)


class ShowsRow(Thing):
    def test_examples(self):
        self.check(shows_row(LINE, START, ((1,), (2, 3), (4,)), [(4, "right"), (2, "right")]), True)
        self.check(shows_row(LINE, START, NEAR, row_to(LINE, START, NEAR)), True)

    def test_the_empty_row(self):
        self.check(shows_row(LINE, START, START, []), True)
        self.check(shows_row(LINE, START, NEAR, []), False)
        self.check(shows_row(LINE, as_lists(START), START, []), True)
        self.check(shows_row(LINE, START, START, ()), False)

    def test_rows_that_fail_or_end_elsewhere(self):
        other = ((1,), (2, 3), (4,))
        right, two = (4, "right"), (2, "right")
        self.all_of([[right], [two], [two, right], [right, two, two], [right, right, two], [right, (3, "right")],
                     [right, two, (5, "left")], [(0, "left"), right, two], [right, two, (1, "left")],
                     [right, two, (1, "right"), (1, "left"), (2, "left")]],
                    lambda thing: shows_row(LINE, START, other, thing))
        self.check(shows_row(LINE, START, other, [right, two, (3, "left"), (3, "right")]), True)

    def test_a_row_to_a_standing_that_cannot_be_reached(self):
        self.all_of([[], [(4, "right"), (2, "right")]], lambda thing: shows_row(LINE, START, OTHER, thing))

    def test_a_train_of_any_number(self):
        for train in (10 ** 5000, -(10 ** 5000), 10 ** 9, -1):
            self.check(shows_row(LINE, START, START, [(train, "left")]), False)

    def test_numbers_that_python_takes_for_true_and_false(self):
        line, one, other = (("track", 1), ("yard", 2)), ((0,), (1,)), ((1,), (0,))
        self.check(shows_row(line, one, other, [(0, "right"), (1, "left")]), True)
        self.all_of([[(False, "right"), (1, "left")], [(0, "right"), (True, "left")]],
                    lambda thing: shows_row(line, one, other, thing))

    def test_other_things(self):
        for other in (START, ((1,), (2, 3), (4,))):
            self.all_of(STRANGE + [(), ((4, "right"), (2, "right"))] + near_misses([(4, "right"), (2, "right")]),
                        lambda thing: shows_row(LINE, START, other, thing))

    def test_many_moves(self):
        row = [(29, "right"), (29, "left")] * 10000
        self.check(shows_row(WIDE, WIDE_START, WIDE_START, row), True)
        self.check(shows_row(WIDE, WIDE_START, WIDE_START, row + [(29, "right")]), False)


class AgainstASearch(Thing):
    def each_pair_with_a_first(self):
        """Of each lot its first standing, with every standing of the line, and whether they share the lot."""
        for line in small_lines() + LONGER:
            for many in range(min(capacity(line), 4) + 1):
                every = every_standing(line, many)
                for lot in lots(line, many):
                    for other in every:
                        yield line, min(lot), other, other in lot

    def test_leads_and_bar(self):
        for line, one, other, led in self.each_pair_with_a_first():
            self.check(leads(line, one, other), led)
            self.check(leads(line, other, one), led)
            found = bar(line, one, other)
            self.assertEqual(found is None, led)
            if not led:
                block, mine, its = found
                self.assertEqual(groups(line, one)[:block], groups(line, other)[:block])
                self.assertEqual((groups(line, one)[block], groups(line, other)[block]), (mine, its))
                self.check(mine != its and shows_bar(line, one, other, found), True)

    def test_row_to_or_barred_and_never_both(self):
        for line, one, other, led in self.each_pair_with_a_first():
            if led:
                self.assertEqual(played(line, one, row_to(line, one, other)), other)
                self.assertEqual(played(line, other, row_to(line, other, one)), one)
            else:
                with self.assertRaises(Barred) as caught:
                    row_to(line, one, other)
                self.assertEqual(caught.exception.block, bar(line, one, other)[0])

    def test_row_to_from_everywhere_in_a_lot(self):
        for line in [(("yard", 2), ("track", 2), ("yard", 2))] + LONGER:
            for lot in lots(line, 3):
                for one, other in itertools.product(sorted(lot)[::3], sorted(lot)[::2]):
                    self.assertEqual(played(line, one, row_to(line, one, other)), other)

    def test_shows_row_agrees_with_playing(self):
        line = (("yard", 2), ("track", 1), ("yard", 1))
        every = every_standing(line, 2)
        moves = [(train, side) for train in (0, 1, 2) for side in ("left", "right")]
        rows = [list(row) for length in range(4) for row in itertools.product(moves, repeat=length)]
        for one in every:
            for row in rows:
                end = played(line, one, row)
                for other in every:
                    self.check(shows_row(line, one, other, row), other == end)


if __name__ == "__main__":
    unittest.main()

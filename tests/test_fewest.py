import itertools
import unittest

from passyards.errors import Crossed, OtherTrains
from passyards.fewest import fewest, fewest_row, reversed_pairs, shows_fewest
from passyards.leading import leads, shows_row
from passyards.lines import capacity
from samples import LINE, START, WIDE, WIDE_START, as_lists
from search import every_standing, least_rows, lots, played, small_lines, strictly_ahead, where
from things import STRANGE, Thing, near_misses

EMPTY = ((), (), ())
CROSSED = ((1, 3), (2, 4), ())
LONGER = [(("yard", 2), ("track", 1), ("yard", 2), ("track", 1)),
          (("track", 1), ("yard", 1), ("yard", 2), ("track", 2)),
          (("track", 1), ("yard", 2), ("track", 1), ("yard", 2), ("track", 1))]


def reversed_by_hand(line, one, other):
    """The reversed pairs, word by word as point [9] says it."""
    known = sorted(train for held in one for train in held)
    return [(a, b) for a, b in itertools.combinations(known, 2)
            if strictly_ahead(line, one, a, b) and strictly_ahead(line, other, b, a)
            or strictly_ahead(line, one, b, a) and strictly_ahead(line, other, a, b)]


def apart(one, other):
    """The sum of the differences of the places."""
    return sum(abs(where(one, train) - where(other, train)) for held in one for train in held)


class OtherTrainsFirst(unittest.TestCase):
    def test_all_functions(self):
        pairs = [(START, ((2, 1), (3,), ())), (((2, 1), (3,), ()), START), (START, ((2, 1), (3, 5), ())),
                 (EMPTY, ((7,), (), ())), (((0,), (), ()), EMPTY)]
        for one, other in pairs + [(as_lists(one), as_lists(other)) for one, other in pairs]:
            for ask in (reversed_pairs, fewest, fewest_row):
                self.assertRaises(OtherTrains, ask, LINE, one, other)
            for thing in STRANGE + [[], [(4, "right")]]:
                self.assertRaises(OtherTrains, shows_fewest, LINE, one, other, thing)


class ReversedPairs(unittest.TestCase):
    def test_example(self):
        self.assertEqual(reversed_pairs(LINE, START, CROSSED), [(2, 3)])

    def test_none(self):
        for one, other in ((START, START), (EMPTY, EMPTY), (START, ((1,), (2, 3), (4,)))):
            self.assertEqual(reversed_pairs(LINE, one, other), [])

    def test_in_a_yard_no_train_is_ahead(self):
        line = (("yard", 3), ("track", 3))
        self.assertEqual(reversed_pairs(line, ((1, 2, 3), ()), ((), (3, 1, 2))), [])
        self.assertEqual(reversed_pairs(line, ((1, 2), (3,)), ((3,), (2, 1))), [(1, 3), (2, 3)])
        self.assertEqual(reversed_pairs(line, ((1,), (2, 3)), ((1,), (3, 2))), [(2, 3)])
        self.assertEqual(reversed_pairs(line, ((3,), (2, 1)), ((1, 3), (2,))), [(1, 2)])

    def test_ascending_with_the_lower_train_first(self):
        line = (("track", 4), ("yard", 2))
        self.assertEqual(reversed_pairs(line, ((9, 3, 10), (5,)), ((5, 10, 3, 9), ())),
                         [(3, 5), (3, 9), (3, 10), (5, 9), (5, 10), (9, 10)])

    def test_also_where_one_does_not_lead_to_the_other(self):
        self.assertEqual(reversed_pairs((("track", 2),), ((2, 1),), ((1, 2),)), [(1, 2)])

    def test_every_pair_of_standings(self):
        for line in small_lines() + LONGER:
            for many in range(min(capacity(line), 3) + 1):
                every = every_standing(line, many)
                for one, other in itertools.product(every[::4], every[::3]):
                    self.assertEqual(reversed_pairs(line, one, other), reversed_by_hand(line, one, other))

    def test_wide(self):
        other = tuple((2 * place + 1, 2 * place) if place % 3 != 1 else (2 * place, 2 * place + 1)
                      for place in range(15)) + ((),)
        self.assertEqual(reversed_pairs(WIDE, WIDE_START, other),
                         [(2 * place, 2 * place + 1) for place in range(15) if place % 3 != 1])
        upside = tuple(tuple(29 - train for train in held) for held in WIDE_START[:15]) + ((),)
        upside = tuple(tuple(sorted(held)) if kind == "yard" else held for (kind, _), held in zip(WIDE, upside))
        self.assertEqual(len(reversed_pairs(WIDE, WIDE_START, upside)), 435 - 5)

    def test_by_name_and_with_lists(self):
        found = reversed_pairs(other=as_lists(CROSSED), one=as_lists(START), line=as_lists(LINE))
        self.assertEqual(repr(found), "[(2, 3)]")
        found.clear()
        self.assertEqual(reversed_pairs(LINE, START, CROSSED), [(2, 3)])


class Fewest(Thing):
    def test_examples(self):
        self.assertEqual(fewest(LINE, START, ((1,), (2, 3), (4,))), 2)
        self.assertEqual(fewest_row(LINE, START, ((1, 2), (3,), (4,))), [(4, "right")])
        self.check(shows_fewest(LINE, START, ((1, 2), (3,), (4,)), [(4, "right")]), True)
        with self.assertRaises(Crossed) as caught:
            fewest(LINE, START, CROSSED)
        self.assertEqual(caught.exception.pair, (2, 3))

    def test_crossed_with_the_first_pair(self):
        line = (("track", 4), ("yard", 2))
        cases = [(LINE, START, CROSSED), (line, ((9, 3, 10), (5,)), ((5, 10, 3, 9), ())),
                 (line, ((9, 3), (5,)), ((3, 9), (5,))), ((("track", 2),), ((2, 1),), ((1, 2),))]
        for its, one, other in cases:
            for ask in (fewest, fewest_row):
                for given in (other, as_lists(other)):
                    with self.assertRaises(Crossed) as caught:
                        ask(its, one, given)
                    self.assertEqual(caught.exception.pair, reversed_by_hand(its, one, other)[0])
                    self.assertIs(type(caught.exception.pair), tuple)

    def check_fewest(self, line, one, other):
        row = fewest_row(line, one, other)
        self.assertIs(type(row), list)
        self.assertEqual(len(row), fewest(line, one, other))
        self.assertEqual(len(row), apart(one, other))
        self.assertEqual(played(line, one, row), other)
        self.check(shows_fewest(line, one, other, row), True)
        return row

    def test_nothing_to_do(self):
        for line, standing in ((LINE, START), (LINE, EMPTY), (WIDE, WIDE_START), ((("track", 1),), ((3,),)),
                               ((("yard", 3),), ((1, 2),)), ((("yard", 1),), ((),)), (LINE, ((3, 2), (0, 9), (1,)))):
            self.assertEqual(self.check_fewest(line, standing, standing), [])

    def test_trains_of_a_yard_that_leave_it_in_another_order(self):
        line = (("track", 3), ("yard", 3), ("track", 3))
        for row in itertools.permutations((1, 2, 3)):
            for other in ((row, (), ()), ((), (), row), (row[:1], row[1:2], row[2:])):
                self.check_fewest(line, ((), (1, 2, 3), ()), other)
                self.check_fewest(line, other, ((), (1, 2, 3), ()))

    def test_hardly_any_room(self):
        line = (("yard", 2), ("track", 1), ("yard", 2), ("track", 1), ("yard", 1))
        self.check_fewest(line, ((1, 2), (3,), (4, 5), (6,), ()), ((2,), (1,), (3, 4), (5,), (6,)))
        self.check_fewest(line, ((), (3,), (4, 5), (6,), (7,)), ((3, 4), (5,), (6, 7), (), ()))

    def test_wide(self):
        left = (tuple(range(30)),) + ((),) * 15
        right = ((),) * 15 + (tuple(range(30)),)
        self.check_fewest(WIDE, WIDE_START, left)
        self.check_fewest(WIDE, right, WIDE_START)
        self.assertEqual(fewest(WIDE, left, right), 450)
        self.check_fewest(WIDE, left, right)

    def test_by_name_and_with_lists(self):
        other = ((1,), (2, 3), (4,))
        told = {"other": as_lists(other), "one": as_lists(START), "line": as_lists(LINE)}
        self.assertEqual(fewest(**told), 2)
        self.assertEqual(fewest_row(**told), fewest_row(LINE, START, other))
        self.check(shows_fewest(thing=fewest_row(**told), **told), True)

    def test_the_row_belongs_to_the_caller(self):
        other = ((1, 2), (3,), (4,))
        fewest_row(LINE, START, other).clear()
        self.assertEqual(fewest_row(LINE, START, other), [(4, "right")])
        fewest_row(LINE, START, START).append("more")
        self.assertEqual(fewest_row(LINE, START, START), [])


class ShowsFewest(Thing):
    def test_it_does_not_raise_crossed(self):
        two = ((2, 1), (3, 4), ())
        for thing in STRANGE + [[], [(4, "right")]]:
            self.check(shows_fewest(LINE, START, CROSSED, thing), False)
            self.check(shows_fewest(LINE, START, two, thing), False)
        # As many moves as the differences of the places are too few for a reversed pair.
        moves = [(train, side) for train in (1, 2, 3, 4) for side in ("left", "right")]
        for row in itertools.product(moves, repeat=2):
            self.check(shows_fewest(LINE, START, CROSSED, list(row)), False)

    def test_a_row_for_a_reversed_pair(self):
        # The two pass each other on their way.
        line, one, other = (("yard", 2), ("yard", 2)), ((1,), (2,)), ((2,), (1,))
        self.assertEqual(reversed_pairs(line, one, other), [(1, 2)])
        for thing in ([(1, "right"), (2, "left")], [(2, "left"), (1, "right")]):
            self.check(shows_fewest(line, one, other, thing), True)
            self.check(shows_fewest(line, one, other, thing + thing + thing), False)
        self.check(shows_fewest(line, one, other, [(1, "right"), (2, "right")]), False)

    def test_a_longer_row_is_none(self):
        other = ((1, 2), (3,), (4,))
        longer = [(4, "right"), (4, "left"), (4, "right")]
        self.check(shows_row(LINE, START, other, longer), True)
        self.check(shows_fewest(LINE, START, other, longer), False)
        self.check(shows_fewest(LINE, START, START, [(4, "right"), (4, "left")]), False)
        self.check(shows_fewest(LINE, START, START, []), True)
        self.check(shows_fewest(LINE, START, other, []), False)

    def test_other_things(self):
        other = ((1, 2), (3,), (4,))
        self.all_of(STRANGE + [(), ((4, "right"),), [[4, "right"]], [(3, "right")], [(4, "left")]]
                    + near_misses([(4, "right")]), lambda thing: shows_fewest(LINE, START, other, thing))
        self.all_of([thing for thing in STRANGE if thing != []],
                    lambda thing: shows_fewest(LINE, START, START, thing))


class AgainstASearch(Thing):
    def test_every_pair_that_a_lot_holds(self):
        for line in small_lines() + LONGER:
            for many in range(min(capacity(line), 3) + 1):
                found = lots(line, many)
                for lot in (found[0], found[-1]):
                    for one in sorted(lot)[::5]:
                        self.check_lot(line, one, least_rows(line, one))

    def check_lot(self, line, one, rows):
        for other, row in rows.items():
            pairs = reversed_by_hand(line, one, other)
            self.check(shows_fewest(line, one, other, row), len(row) == apart(one, other))
            if pairs:
                self.assertGreaterEqual(len(row), apart(one, other))
                for ask in (fewest, fewest_row):
                    with self.assertRaises(Crossed) as caught:
                        ask(line, one, other)
                    self.assertEqual(caught.exception.pair, pairs[0])
            else:
                self.assertEqual(fewest(line, one, other), len(row))
                found = fewest_row(line, one, other)
                self.assertEqual(len(found), len(row))
                self.assertEqual(played(line, one, found), other)

    def test_no_reversed_pair_only_within_a_lot(self):
        for line in small_lines() + LONGER:
            every = every_standing(line, min(capacity(line), 3))
            for one, other in itertools.product(every[::7], every[::2]):
                if not reversed_pairs(line, one, other):
                    self.check(leads(line, one, other), True)


if __name__ == "__main__":
    unittest.main()

import unittest

from passyards.counting import reachable_many
from passyards.errors import OtherTrains, TooMany
from passyards.limits import MOST
from passyards.lines import capacity, is_standing
from passyards.small import all_from, distance, first_row
from samples import LINE, START, WIDE, WIDE_START, as_lists
from search import every_standing, least_rows, lots, played, reached, small_lines

EMPTY = ((), (), ())
FAR = ((2, 1), (3, 4), ())
CROSSED = ((1, 3), (2, 4), ())
LONGER = [(("yard", 2), ("track", 1), ("yard", 2), ("track", 1)),
          (("track", 1), ("yard", 1), ("yard", 2), ("track", 2))]
# Lines with a standing that leads to exactly so many standings.
BY_NUMBER = {
    499: ((("track", 3), ("track", 4), ("yard", 2), ("yard", 4)), ((), (), (0, 1), (2, 3))),
    500: ((("track", 3), ("yard", 3), ("yard", 4)), ((), (0, 1), (2, 3, 4))),
    501: ((("track", 3), ("yard", 3), ("yard", 5)), ((), (0, 1), (2, 3, 4))),
    502: ((("yard", 7), ("yard", 9)), (tuple(range(7)), (7, 8))),
}


class AllFrom(unittest.TestCase):
    def test_examples(self):
        self.assertEqual(all_from((("track", 1), ("track", 2)), ((4,), (7,))), [((), (4, 7)), ((4,), (7,))])
        with self.assertRaises(TooMany) as caught:
            all_from((("yard", 9), ("yard", 9)), ((0, 1, 2, 3, 4, 5, 6, 7, 8), ()))
        self.assertEqual(caught.exception.many, 500)

    def test_no_trains_full_lines_and_one_place(self):
        for line, standing in ((LINE, EMPTY), (LINE, ((3, 2), (0, 9), (1,))), ((("yard", 30),), (tuple(range(30)),)),
                               ((("track", 2),), ((2, 1),)), ((("yard", 1),), ((),))):
            self.assertEqual(all_from(line, standing), [standing])

    def test_thirty_trains(self):
        line = (("track", 2),) * 15 + (("track", 1),)
        found = all_from(line, WIDE_START)
        self.assertEqual(len(found), 16)
        self.assertEqual(found, sorted(reached(line, WIDE_START)))

    def test_against_a_search(self):
        for line in small_lines() + LONGER:
            for many in range(min(capacity(line), 3) + 1):
                for lot in lots(line, many)[:2]:
                    for standing in (min(lot), max(lot)):
                        found = all_from(line, standing)
                        self.assertEqual(found, sorted(lot))
                        self.assertTrue(all(is_standing(line, one) for one in found))

    def test_by_name_and_with_lists(self):
        found = all_from(standing=as_lists(START), line=as_lists(LINE))
        self.assertEqual(repr(found), repr(sorted(reached(LINE, START))))
        found.clear()
        self.assertEqual(len(all_from(LINE, START)), 12)


class Distance(unittest.TestCase):
    def test_examples(self):
        self.assertEqual(distance(LINE, START, CROSSED), 4)
        self.assertEqual(first_row(LINE, START, ((1,), (2, 3), (4,))), [(4, "right"), (2, "right")])

    def test_itself(self):
        for line, standing in ((LINE, START), (LINE, EMPTY), ((("track", 2),), ((2, 1),)), ((("yard", 1),), ((),))):
            self.assertEqual(distance(line, standing, standing), 0)
            self.assertEqual(first_row(line, standing, standing), [])
            self.assertEqual(first_row(line, as_lists(standing), standing), [])

    def test_none_where_one_does_not_lead_to_the_other(self):
        for line, one, other in ((LINE, START, FAR), ((("track", 2),), ((2, 1),), ((1, 2),)),
                                 ((("yard", 1), ("track", 1)), ((5,), (3,)), ((3,), (5,)))):
            self.assertIsNone(distance(line, one, other))
            self.assertIsNone(first_row(line, one, other))

    def test_a_longer_way_round(self):
        # The two trains can change order in the yard alone.
        line = (("track", 2), ("yard", 2), ("track", 2))
        self.assertEqual(distance(line, ((1, 2), (), ()), ((2, 1), (), ())), 4)
        self.assertEqual(first_row(line, ((1, 2), (), ()), ((2, 1), (), ())),
                         [(2, "right"), (1, "right"), (2, "left"), (1, "left")])

    def test_the_first_of_several_rows(self):
        line = (("yard", 3), ("yard", 3))
        self.assertEqual(first_row(line, ((2, 3, 10), ()), ((), (2, 3, 10))),
                         [(2, "right"), (3, "right"), (10, "right")])
        self.assertEqual(first_row(line, ((3, 10), (2,)), ((2,), (3, 10))),
                         [(2, "left"), (3, "right"), (10, "right")])

    def test_against_a_search(self):
        for line in small_lines() + LONGER:
            for many in range(min(capacity(line), 3) + 1):
                every = every_standing(line, many)
                for lot in lots(line, many)[:2]:
                    one = sorted(lot)[len(lot) // 3]
                    rows = least_rows(line, one)
                    for other in every[::2]:
                        row = rows.get(other)
                        self.assertEqual(distance(line, one, other), None if row is None else len(row))
                        self.assertEqual(first_row(line, one, other), row)

    def test_by_name_and_with_lists(self):
        told = {"other": as_lists(CROSSED), "one": as_lists(START), "line": as_lists(LINE)}
        self.assertEqual(distance(**told), 4)
        row = first_row(**told)
        self.assertEqual(repr(row), repr(first_row(LINE, START, CROSSED)))
        row.clear()
        self.assertEqual(len(first_row(**told)), 4)


class Errors(unittest.TestCase):
    def test_exactly_so_many_standings(self):
        for number, (line, standing) in BY_NUMBER.items():
            self.assertEqual(len(reached(line, standing)), number)
            self.assertEqual(reachable_many(line, standing), number)
            if number <= MOST:
                found = all_from(line, standing)
                self.assertEqual(len(found), number)
                self.assertEqual(distance(line, standing, found[0]), len(first_row(line, standing, found[0])))
                self.assertEqual(played(line, standing, first_row(line, standing, found[-1])), found[-1])
            else:
                self.check_too_many(line, standing, standing)

    def check_too_many(self, line, one, other):
        for ask in (lambda: all_from(line, one), lambda: distance(line, one, other),
                    lambda: first_row(line, one, other)):
            with self.assertRaises(TooMany) as caught:
                ask()
            self.assertEqual(caught.exception.many, MOST)

    def test_too_many_also_where_one_does_not_lead_to_the_other(self):
        line = (("track", 30),) * 4
        one, other = ((1, 2), (3, 4), (5, 6), tuple(range(7, 14))), ((2, 1), (3, 4), (5, 6), tuple(range(7, 14)))
        self.check_too_many(line, one, other)
        self.check_too_many(line, as_lists(one), as_lists(other))
        self.check_too_many(WIDE, WIDE_START, WIDE_START)

    def test_other_trains_before_too_many(self):
        for line, one, other in ((LINE, START, ((1, 2), (3,), ())), (LINE, EMPTY, START),
                                 (LINE, START, ((1, 2), (3, 5), ())),
                                 (WIDE, WIDE_START, WIDE_START[:14] + ((28,), ())),
                                 (WIDE, WIDE_START, ((30, 1),) + WIDE_START[1:])):
            for ask in (distance, first_row):
                self.assertRaises(OtherTrains, ask, line, one, other)
                self.assertRaises(OtherTrains, ask, line, other, one)
                self.assertRaises(OtherTrains, ask, as_lists(line), as_lists(one), as_lists(other))


if __name__ == "__main__":
    unittest.main()

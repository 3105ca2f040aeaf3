import itertools
import math
import unittest
from fractions import Fraction

from passyards.blocks import blocks, groups
from passyards.counting import lots_many, number_of, reachable_at, reachable_many, standings_many
from passyards.errors import Barred, NoNumber, OtherTrains
from passyards.leading import bar, leads
from passyards.lines import capacity, is_standing
from samples import LINE, START, WIDE, WIDE_START, as_lists
from search import every_standing, fillings, lots, reached, small_lines

EMPTY = ((), (), ())
# Lines that are longer than the small ones: several yards, yards and tracks of size 1 between them.
LONGER = [(("yard", 2), ("track", 1), ("yard", 2), ("track", 1)),
          (("track", 1), ("yard", 1), ("yard", 2), ("track", 2)),
          (("track", 1), ("yard", 2), ("track", 1), ("yard", 2), ("track", 1))]
# Point [3]: sixteen places, thirty trains, sizes of 30.
YARDS = (("yard", 30),) * 16
TRACKS = (("track", 30),) * 16
FULL = (("track", 1), ("yard", 2), ("yard", 3), ("track", 2))
FULL_START = ((9,), (1, 4), (0, 2, 7), (8, 3))


def by_the_formula(line, many):
    """reachable_many as the words in the brackets of point [8] say it, with all choices of the counts one by one."""
    total = Fraction(0)
    for held in itertools.product(*[range(size + 1) for _, size in line]):
        if sum(held) == many:
            part = Fraction(math.prod(math.factorial(last - first + 1) for first, last in blocks(line, many)))
            for (kind, _), number in zip(line, held):
                part = part / math.factorial(number) if kind == "yard" else part
            total += part
    return total


class ReachableMany(unittest.TestCase):
    def test_example(self):
        self.assertEqual(reachable_many(LINE, START), 12)

    def test_no_trains(self):
        for line in (LINE, WIDE, (("yard", 1),)):
            self.assertEqual(reachable_many(line, tuple(() for _ in line)), 1)

    def test_full_lines(self):
        self.assertEqual(reachable_many(LINE, ((1, 2), (3, 4), (5,))), 1)
        self.assertEqual(reachable_many(FULL, FULL_START), 1)

    def test_one_place(self):
        self.assertEqual(reachable_many((("track", 30),), (tuple(range(30)),)), 1)
        self.assertEqual(reachable_many((("yard", 30),), (tuple(range(30)),)), 1)

    def test_places_of_size_1(self):
        for line in ((("yard", 1),) * 6, (("track", 1),) * 6, (("yard", 1), ("track", 1)) * 3):
            self.assertEqual(reachable_many(line, ((5,), (2,), (7,), (), (), ())), math.comb(6, 3))

    def test_thirty_trains(self):
        standing = (tuple(range(30)),) + ((),) * 15
        # Each train stands in any yard.
        self.assertEqual(reachable_many(YARDS, standing), 16 ** 30)
        # The order stays; sixteen counts with the sum of 30.
        self.assertEqual(reachable_many(TRACKS, standing), math.comb(45, 15))
        self.assertEqual(reachable_many((("yard", 2),) * 15, tuple((at, at + 15) for at in range(15))), 1)

    def test_the_formula_word_by_word(self):
        for line in small_lines() + LONGER:
            for many in range(min(5, capacity(line)) + 1):
                standing = fillings(line, tuple(range(many)))[-1]
                self.assertEqual(reachable_many(line, standing), by_the_formula(line, many))

    def test_by_name_and_with_lists(self):
        found = reachable_many(standing=as_lists(START), line=as_lists(LINE))
        self.assertEqual((type(found), found), (int, 12))


class StandingsAndLots(unittest.TestCase):
    def test_examples(self):
        self.assertEqual((standings_many(LINE, 4), lots_many(LINE, 4)), (48, 4))

    def test_every_number_of_trains(self):
        self.assertEqual([standings_many(LINE, many) for many in range(8)], [1, 3, 9, 24, 48, 60, 0, 0])
        self.assertEqual([lots_many(LINE, many) for many in range(6)], [1, 1, 1, 1, 4, 60])

    def test_above_the_capacity(self):
        for many in (6, 7, 30, 480, 10 ** 9, 10 ** 100):
            self.assertEqual(standings_many(LINE, many), 0)
        self.assertEqual(standings_many((("yard", 1),), 2), 0)
        self.assertEqual(standings_many(WIDE, standings_many(WIDE, 30)), 0)

    def test_one_place(self):
        for many in range(31):
            self.assertEqual(standings_many((("track", 30),), many), math.factorial(many))
            self.assertEqual(lots_many((("track", 30),), many), math.factorial(many))
            self.assertEqual(standings_many((("yard", 30),), many), 1)
            self.assertEqual(lots_many((("yard", 30),), many), 1)

    def test_thirty_trains(self):
        self.assertEqual(standings_many(YARDS, 30), 16 ** 30)
        self.assertEqual(standings_many(TRACKS, 30), math.comb(45, 15) * math.factorial(30))
        self.assertEqual(lots_many(YARDS, 30), 1)
        self.assertEqual(lots_many(TRACKS, 30), math.factorial(30))
        self.assertEqual(standings_many((("yard", 2),) * 15, 30), math.factorial(30) // 2 ** 15)
        self.assertEqual(lots_many((("yard", 2),) * 15, 30), math.factorial(30) // 2 ** 15)

    def test_lots_of_equal_size_make_all_standings(self):
        for line in small_lines() + LONGER + [FULL, WIDE]:
            for many in range(min(30, capacity(line)) + 1):
                standing, row = [], list(range(many))
                for _, size in line:
                    standing.append(tuple(row[:size]))
                    row = row[size:]
                self.assertEqual(reachable_many(line, standing) * lots_many(line, many), standings_many(line, many))

    def test_by_name_and_with_lists(self):
        for ask, expected in ((standings_many, 48), (lots_many, 4)):
            found = ask(many=4, line=as_lists(LINE))
            self.assertEqual((type(found), found), (int, expected))


class ReachableAt(unittest.TestCase):
    def test_example(self):
        self.assertEqual(reachable_at(LINE, START, 0), ((1,), (2, 3), (4,)))

    def test_all_of_the_example(self):
        found = [reachable_at(LINE, START, number) for number in range(12)]
        self.assertEqual(found, sorted(reached(LINE, START)))

    def test_first_and_last_and_those_beside_them(self):
        for line, standing in ((LINE, START), (LINE, EMPTY), (WIDE, WIDE_START), (FULL, FULL_START),
                               ((("yard", 1),), ((3,),)), ((("track", 2),), ((2, 1),))):
            many = reachable_many(line, standing)
            for number in [number for number in (0, 1, many // 2, many - 2, many - 1) if 0 <= number < many]:
                found = reachable_at(line, standing, number)
                self.assertTrue(is_standing(line, found) and leads(line, standing, found))
                self.assertEqual(number_of(line, standing, found), number)
            for number in (-1, many, many + 1):
                self.check_none(line, standing, number)

    def check_none(self, line, standing, number):
        with self.assertRaises(NoNumber) as caught:
            reachable_at(line, standing, number)
        self.assertEqual(caught.exception.number, number)

    def test_any_number(self):
        for number in (12, 13, -1, -12, 10 ** 9, -(10 ** 9), 10 ** 5000, -(10 ** 5000)):
            self.check_none(LINE, START, number)
        for number in (1, -1, 10 ** 5000):
            self.check_none(LINE, EMPTY, number)

    def test_no_trains_and_full_lines(self):
        self.assertEqual(reachable_at(LINE, EMPTY, 0), EMPTY)
        self.assertEqual(reachable_at(FULL, FULL_START, 0), FULL_START)

    def test_shorter_tuples_come_before_the_ones_that_they_begin(self):
        line = (("yard", 2), ("yard", 2))
        found = [reachable_at(line, ((4, 7), ()), number) for number in range(4)]
        self.assertEqual(found, [((), (4, 7)), ((4,), (7,)), ((4, 7), ()), ((7,), (4,))])

    def test_thirty_trains(self):
        trains = tuple(range(30))
        standing = (trains,) + ((),) * 15
        many = 16 ** 30
        self.assertEqual(reachable_at(YARDS, standing, 0), ((),) * 15 + (trains,))
        last = tuple((29 - place,) for place in range(15)) + (trains[:15],)
        self.assertEqual(reachable_at(YARDS, standing, many - 1), last)
        for number in [many // part for part in range(1, 40)][1:]:
            found = reachable_at(YARDS, standing, number)
            below = reachable_at(YARDS, standing, number - 1)
            self.assertTrue(is_standing(YARDS, found) and below < found)
            self.assertEqual(number_of(YARDS, standing, found), number)

    def test_wide(self):
        many = reachable_many(WIDE, WIDE_START)
        numbers = [many * part // 50 for part in range(50)] + [many - 1]
        found = [reachable_at(WIDE, WIDE_START, number) for number in numbers]
        self.assertEqual(found, sorted(found))
        self.assertEqual(len(set(found)), len(numbers))
        self.assertTrue(all(is_standing(WIDE, standing) for standing in found))
        self.assertEqual([number_of(WIDE, WIDE_START, standing) for standing in found], numbers)

    def test_by_name_and_with_lists(self):
        found = reachable_at(number=4, standing=as_lists(START), line=as_lists(LINE))
        self.assertEqual(repr(found), repr(START))


class NumberOf(unittest.TestCase):
    def test_example(self):
        self.assertEqual(number_of(LINE, START, START), 4)

    def test_no_trains_and_full_lines(self):
        self.assertEqual(number_of(LINE, EMPTY, EMPTY), 0)
        self.assertEqual(number_of(FULL, FULL_START, FULL_START), 0)

    def test_other_trains_first(self):
        for other in (EMPTY, ((2, 1), (3,), ()), ((2, 1), (3, 5), ()), ((2, 1), (3, 4), (5,))):
            for given in (other, as_lists(other)):
                self.assertRaises(OtherTrains, number_of, LINE, START, given)
                self.assertRaises(OtherTrains, number_of, LINE, given, START)

    def test_barred_with_the_block_of_bar(self):
        line = (("track", 3), ("yard", 2))
        one = ((9, 7, 5), (1, 3))
        for other in (((9, 5, 7), (1, 3)), ((9, 7, 1), (3, 5)), ((1, 3, 5), (7, 9))):
            with self.assertRaises(Barred) as caught:
                number_of(line, one, other)
            self.assertEqual(caught.exception.block, bar(line, one, other)[0])
        with self.assertRaises(Barred) as caught:
            number_of(LINE, START, ((2, 1), (3, 4), ()))
        self.assertEqual(caught.exception.block, 0)

    def test_by_name_and_with_lists(self):
        found = number_of(other=as_lists(START), standing=as_lists(START), line=as_lists(LINE))
        self.assertEqual((type(found), found), (int, 4))


class AgainstASearch(unittest.TestCase):
    def each_lot(self):
        for line in small_lines() + LONGER:
            for many in range(min(capacity(line), 4) + 1):
                yield line, many, lots(line, many)

    def test_numbers_of_standings_and_lots(self):
        for line, many, found in self.each_lot():
            self.assertEqual(standings_many(line, many), len(every_standing(line, many)))
            self.assertEqual(lots_many(line, many), len(found))
            for lot in found:
                self.assertEqual(reachable_many(line, min(lot)), len(lot))

    def test_reachable_at_and_number_of(self):
        for line, _, found in self.each_lot():
            for lot in (found[0], found[-1]):
                ascending = sorted(lot)
                start = ascending[len(lot) // 2]
                self.assertEqual([reachable_at(line, start, number) for number in range(len(lot))], ascending)
                self.assertEqual([number_of(line, start, other) for other in ascending], list(range(len(lot))))

    def test_number_of_is_barred_between_lots(self):
        for line, many, found in self.each_lot():
            start = min(found[0])
            for lot in found[1:3] + found[-1:]:
                for other in lot - found[0]:
                    with self.assertRaises(Barred) as caught:
                        number_of(line, start, other)
                    block = caught.exception.block
                    self.assertEqual(groups(line, start)[:block], groups(line, other)[:block])
                    self.assertNotEqual(groups(line, start)[block], groups(line, other)[block])


if __name__ == "__main__":
    unittest.main()

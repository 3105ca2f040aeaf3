import itertools
import unittest

from passyards.errors import NoTrain
from passyards.lines import capacity
from passyards.reach import ever_ahead, may_meet, places_of
from samples import LINE, START, WIDE, WIDE_START, as_lists
from search import lots, met, small_lines, strictly_ahead, where
from things import Thing

NOWHERE = (0, 5, -1, -4, 10 ** 9, 10 ** 5000, -(10 ** 5000))
FULL = ((3, 2), (0, 9), (1,))
EMPTY = ((), (), ())


class PlacesOf(unittest.TestCase):
    def test_examples(self):
        self.assertEqual(places_of(LINE, START, 1), [0])
        self.assertEqual(places_of(LINE, START, 2), [0, 1, 2])

    def test_full_lines(self):
        self.assertEqual([places_of(LINE, FULL, train) for train in (3, 2, 0, 9, 1)], [[0], [0], [1], [1], [2]])
        self.assertEqual(places_of((("yard", 1),), ((7,),), 7), [0])

    def test_one_place(self):
        for kind in ("track", "yard"):
            self.assertEqual(places_of(((kind, 30),), ((4, 5, 6),), 5), [0])

    def test_a_train_alone_goes_everywhere(self):
        self.assertEqual(places_of((("track", 1), ("yard", 1), ("track", 1)), ((), (8,), ()), 8), [0, 1, 2])

    def test_places_of_size_1(self):
        line = (("yard", 1), ("track", 1), ("yard", 1), ("track", 1))
        self.assertEqual(places_of(line, ((1,), (), (2,), ()), 1), [0, 1, 2])
        self.assertEqual(places_of(line, ((1,), (), (2,), ()), 2), [1, 2, 3])

    def test_wide(self):
        for train in range(30):
            self.assertEqual(places_of(WIDE, WIDE_START, train), list(range(16)))
        line = (("track", 2),) * 16
        standing = tuple((2 * place, 2 * place + 1) for place in range(15)) + ((),)
        self.assertEqual(places_of(line, standing, 0), [0, 1])
        self.assertEqual(places_of(line, standing, 29), [14, 15])

    def test_a_train_that_stands_nowhere(self):
        for train in NOWHERE:
            for standing in (START, EMPTY):
                with self.assertRaises(NoTrain) as caught:
                    places_of(LINE, standing, train)
                self.assertEqual(caught.exception.train, train)

    def test_by_name_and_with_lists(self):
        found = places_of(train=2, standing=as_lists(START), line=as_lists(LINE))
        self.assertEqual((type(found), found), (list, [0, 1, 2]))
        found.clear()
        self.assertEqual(places_of(LINE, START, 2), [0, 1, 2])


class Pairs(Thing):
    def test_examples(self):
        self.check(may_meet(LINE, START, 2, 4), True)
        self.check(ever_ahead(LINE, START, 1, 4), True)

    def test_between_blocks_and_inside(self):
        self.check(may_meet(LINE, START, 1, 2), False)
        self.check(may_meet(LINE, START, 2, 1), False)
        self.check(ever_ahead(LINE, START, 4, 1), False)
        self.check(ever_ahead(LINE, START, 2, 4), False)
        self.check(ever_ahead(LINE, START, 4, 2), False)

    def test_full_lines(self):
        row = [3, 2, 0, 9, 1]
        for one, other in itertools.permutations(row, 2):
            self.check(may_meet(LINE, FULL, one, other), {one, other} == {0, 9})
            self.check(ever_ahead(LINE, FULL, one, other), row.index(one) < row.index(other) and one + other != 9)

    def test_one_place(self):
        self.check(may_meet((("track", 2),), ((2, 1),), 1, 2), False)
        self.check(ever_ahead((("track", 2),), ((2, 1),), 2, 1), True)
        self.check(may_meet((("yard", 2),), ((1, 2),), 1, 2), True)
        self.check(ever_ahead((("yard", 2),), ((1, 2),), 1, 2), False)

    def test_wide(self):
        self.check(may_meet(WIDE, WIDE_START, 0, 29), True)
        self.check(ever_ahead(WIDE, WIDE_START, 0, 29), False)
        line = (("track", 30), ("yard", 1)) * 8
        standing = tuple((2 * place, 2 * place + 1) if place % 2 == 0 else () for place in range(16))
        self.check(may_meet(line, standing, 0, 29), False)
        self.check(ever_ahead(line, standing, 0, 29), True)

    def test_trains_that_stand_nowhere(self):
        for ask in (may_meet, ever_ahead):
            for train in NOWHERE:
                for one, other in ((train, 2), (2, train), (train, 77), (train, -77)):
                    with self.assertRaises(NoTrain) as caught:
                        ask(LINE, START, one, other)
                    self.assertEqual(caught.exception.train, train)
                with self.assertRaises(NoTrain) as caught:
                    ask(LINE, EMPTY, train, 8)
                self.assertEqual(caught.exception.train, train)

    def test_by_name_and_with_lists(self):
        for ask, answer in ((may_meet, False), (ever_ahead, True)):
            self.check(ask(other=2, one=1, standing=as_lists(START), line=as_lists(LINE)), answer)


class AgainstASearch(Thing):
    def each_lot(self):
        for line in small_lines() + [(("yard", 2), ("track", 1), ("yard", 1), ("yard", 2), ("track", 1))]:
            for many in range(min(capacity(line), 5) + 1):
                # The names of the trains do not matter: the first and the last lot stand for the others.
                found = lots(line, many)
                for lot in (found[0], found[-1]):
                    yield line, many, sorted(lot)

    def test_places_of(self):
        for line, many, lot in self.each_lot():
            for train in range(many):
                expected = sorted({where(standing, train) for standing in lot})
                for standing in (lot[0], lot[-1]):
                    self.assertEqual(places_of(line, standing, train), expected)

    def test_may_meet_and_ever_ahead(self):
        for line, many, lot in self.each_lot():
            for one, other in itertools.permutations(range(many), 2):
                meet = any(met(line, standing, one, other) for standing in lot)
                ahead = all(strictly_ahead(line, standing, one, other) for standing in lot)
                for standing in (lot[0], lot[-1]):
                    self.check(may_meet(line, standing, one, other), meet)
                    self.check(ever_ahead(line, standing, one, other), ahead)


if __name__ == "__main__":
    unittest.main()

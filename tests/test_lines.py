import itertools
import unittest

from passyards.errors import NoTrain
from passyards.lines import capacity, copied, counts, is_exactly, is_line, is_standing, place_of, trains
from samples import LINE, START, WIDE, WIDE_START, as_lists
from things import STRANGE, Thing, near_misses

def rows(parts, longest):
    """All tuples and all lists of the parts, up to that length."""
    return [kind(row) for many in range(longest + 1) for row in itertools.product(parts, repeat=many)
            for kind in (tuple, list)]


class IsLine(Thing):
    def test_examples(self):
        self.check(is_line([["track", 2]]), False)
        self.check(is_line((("track", 2),)), True)

    def test_lines(self):
        for thing in (LINE, WIDE, (("yard", 1),), (("track", 1),), (("yard", 30),), (("track", 10 ** 30),),
                      (("track", 2),) * 40):
            with self.subTest(thing=thing):
                self.check(is_line(thing), True)

    def test_by_name(self):
        self.check(is_line(thing=LINE), True)

    def test_no_place_at_all(self):
        self.check(is_line(()), False)

    def test_strange_values(self):
        self.all_of(STRANGE + [[]], is_line)

    def test_sizes(self):
        for size in (0, -1, -30, True, False, None, "2", "", (2,), [2], (), []):
            self.all_of([(("track", size),), (("yard", size),), (("track", 1), ("yard", size))], is_line)

    def test_kinds(self):
        for kind in ("Track", "YARD", "", "t", "trackyard", "track ", 0, 1, True, None, ("track",), ["yard"], ()):
            self.all_of([((kind, 2),), (("track", 1), (kind, 2))], is_line)

    def test_too_few_or_many_parts(self):
        self.all_of([((),), (("track",),), (("track", 2, 2),), ((2, "track"),), ("track", 2), (("track", 2), ()),
                     ("ab",), ("track", "yard")], is_line)

    def test_lists_at_each_depth(self):
        self.all_of([as_lists(LINE), list(LINE), (["track", 2],), (("track", 2), ["yard", 2])], is_line)

    def test_all_small_things(self):
        parts = ["track", "yard", "", 0, 1, 2, -1, True, False, None, (), []]
        pairs = [kind(pair) for pair in itertools.product(parts, repeat=2) for kind in (tuple, list)]
        right = {repr((kind, size)) for kind in ("track", "yard") for size in (1, 2)}
        for pair in pairs:
            self.check(is_line((pair,)), repr(pair) in right)
            self.check(is_line([pair]), False)
            self.check(is_line((("track", 1), pair)), repr(pair) in right)
            self.check(is_line((pair, ("yard", 1))), repr(pair) in right)


class IsStanding(Thing):
    def test_examples(self):
        self.check(is_standing((("track", 2),), ((2, 1),)), True)
        self.check(is_standing((("yard", 2),), ((2, 1),)), False)

    def test_standings(self):
        for thing in (START, ((), (), ()), ((2, 1), (0, 10 ** 9), (5,)), ((), (7,), (3,))):
            with self.subTest(thing=thing):
                self.check(is_standing(LINE, thing), True)
        self.check(is_standing(WIDE, WIDE_START), True)

    def test_by_name_and_with_lists_for_the_line(self):
        self.check(is_standing(line=LINE, thing=START), True)
        self.check(is_standing(thing=START, line=as_lists(LINE)), True)
        self.check(is_standing(as_lists(LINE), as_lists(START)), False)

    def test_exactly_full_and_one_too_many(self):
        for size in (1, 2, 30):
            full = tuple(range(size))
            for kind in ("track", "yard"):
                with self.subTest(kind=kind, size=size):
                    self.check(is_standing(((kind, size),), (full,)), True)
                    self.check(is_standing(((kind, size),), (full + (size,),)), False)
                    self.check(is_standing(((kind, size), ("track", 1)), (full, (size,))), True)

    def test_strange_values(self):
        for line in (LINE, (("track", 1),), (("yard", 2),)):
            self.all_of(STRANGE + [[]], lambda thing: is_standing(line, thing))

    def test_strange_trains(self):
        for train in (True, False, None, "", "1", "ab", -1, -(10 ** 9), (), (1,), [], [1]):
            self.all_of([((train,), (), ()), ((), (train,), ()), ((), (), (train,)), ((5, train), (), ()),
                         ((), (train, 5), ()), ((), (0, train), ()), train],
                        lambda thing: is_standing(LINE, thing))

    def test_numbers_and_other_values_for_places(self):
        for held in (0, 1, True, None, "", "ab", [], [1], [1, 2], ((),), ((1,),)):
            self.all_of([(held, (), ()), ((), held, ()), ((), (), held)], lambda thing: is_standing(LINE, thing))

    def test_a_train_twice(self):
        self.all_of([((1, 1), (), ()), ((), (1, 1), ()), ((1,), (1,), ()), ((1, 2), (3, 4), (1,)),
                     ((), (1, 2), (2,))], lambda thing: is_standing(LINE, thing))

    def test_order_in_a_yard(self):
        line = (("yard", 3), ("track", 3))
        for held in itertools.permutations((1, 5, 9)):
            with self.subTest(held=held):
                self.check(is_standing(line, (held, ())), held == (1, 5, 9))
                self.check(is_standing(line, ((), held)), True)

    def test_too_few_or_many_places(self):
        self.all_of([(), ((),), ((), ()), ((), (), (), ()), ((1, 2), (3, 4)), START + ((),)],
                    lambda thing: is_standing(LINE, thing))

    def test_lists_at_each_depth(self):
        self.all_of([as_lists(START), list(START), ([1, 2], (3, 4), ()), ((1, 2), (3, 4), [])],
                    lambda thing: is_standing(LINE, thing))

    def test_all_small_things(self):
        line = (("track", 2), ("yard", 2))
        right = {repr((row[:cut], tuple(sorted(row[cut:])))) for many in range(5)
                 for row in itertools.permutations((0, 1, 2), many) for cut in range(many + 1)
                 if cut <= 2 and many - cut <= 2}
        held = rows([0, 1, 2, True, False, None, -1, "1"], 3)
        few = rows([0, 1, 2, True, None], 2)
        pool = itertools.chain(itertools.product(held, few), itertools.product(few, held))
        found = {repr(thing) for thing in pool if is_standing(line, thing) is not False}
        self.assertEqual(found, right)


class IsExactly(Thing):
    def test_the_same_kinds_at_each_depth(self):
        for value in (0, 1, 10 ** 5000, (), (0, (1, 2), ()), ((1,), (0,))):
            self.check(is_exactly(value, value), True)

    def test_other_things(self):
        for value in (0, 1, (0, (1, 2)), (1, (0,), (5, 7))):
            self.all_of([thing for thing in STRANGE if repr(thing) != repr(value)] + near_misses(value),
                        lambda thing: is_exactly(thing, value))


class Facts(unittest.TestCase):
    def test_capacity(self):
        self.assertEqual(capacity((("track", 2), ("yard", 2), ("track", 1))), 5)
        self.assertEqual(capacity((("yard", 1),)), 1)
        self.assertEqual(capacity(WIDE), 480)
        self.assertEqual(capacity(line=as_lists(LINE)), 5)

    def test_trains(self):
        self.assertEqual(trains(((5, 2), (3, 4), ())), [2, 3, 4, 5])
        self.assertEqual(trains(((), (), ())), [])
        self.assertEqual(trains(WIDE_START), list(range(30)))
        self.assertEqual(trains(standing=[[5, 2], (3, 4), []]), [2, 3, 4, 5])
        self.assertEqual(trains(((10, 9), (0, 10 ** 9))), [0, 9, 10, 10 ** 9])

    def test_trains_belong_to_the_caller(self):
        standing = [[5, 2], [3]]
        trains(standing).append(8)
        self.assertEqual(trains(standing), [2, 3, 5])
        self.assertEqual(standing, [[5, 2], [3]])
        alone = [[4]]
        trains(alone).clear()
        self.assertEqual(alone, [[4]])

    def test_place_of(self):
        self.assertEqual(place_of(((1, 2), (3, 4), ()), 4), 1)
        self.assertEqual([place_of(START, train) for train in (1, 2, 3, 4)], [0, 0, 1, 1])
        self.assertEqual(place_of(train=0, standing=[[], [], [0]]), 2)
        self.assertEqual(place_of(WIDE_START, 29), 14)

    def test_place_of_a_train_that_stands_nowhere(self):
        for train in (0, 5, -1, -4, 10 ** 9, 10 ** 5000, -(10 ** 5000)):
            with self.assertRaises(NoTrain) as caught:
                place_of(START, train)
            self.assertEqual(caught.exception.train, train)
        with self.assertRaises(NoTrain) as caught:
            place_of(((), ()), 0)
        self.assertEqual(caught.exception.train, 0)

    def test_counts(self):
        self.assertEqual(counts(((1, 2), (3, 4), ())), (2, 2, 0))
        self.assertEqual(counts(standing=[[], [7], [1, 2, 3]]), (0, 1, 3))
        self.assertEqual(counts(((), ())), (0, 0))
        self.assertEqual(counts(WIDE_START), (2,) * 15 + (0,))

    def test_copied(self):
        standing = [[2, 1], (3, 4), []]
        self.assertEqual(copied(standing), ((2, 1), (3, 4), ()))
        self.assertEqual(copied(START), START)
        self.assertEqual(standing, [[2, 1], (3, 4), []])

    def test_kinds_of_values(self):
        self.assertIs(type(trains(START)), list)
        self.assertIs(type(counts(as_lists(START))), tuple)
        self.assertIs(type(place_of(START, 4)), int)
        self.assertIs(type(capacity(LINE)), int)


if __name__ == "__main__":
    unittest.main()

import copy
import itertools
import unittest

from passyards.blocks import blocks, groups
from passyards.errors import Denied, NoPlace, NoTrain
from passyards.leading import leads
from passyards.lines import capacity, is_standing, place_of
from passyards.slides import cuts_of
from passyards.wishes import cuts, granted, shows_cuts
from samples import LINE, START, WIDE, WIDE_START, as_lists
from search import fillings, reached, small_lines, where
from things import STRANGE, Thing, near_misses

EMPTY = ((), (), ())
ASK = (cuts, granted, lambda line, standing, wish: shows_cuts(line, standing, wish, []))
# Longer than the small lines: several yards, a yard and tracks of size 1 between them.
LONGER = [(("yard", 2), ("track", 1), ("yard", 2), ("track", 1)),
          (("track", 1), ("yard", 1), ("yard", 2), ("track", 2))]


def holds_at(line, standing, wish, place, first, behind):
    """The two conditions of point [11] for one place, word by word."""
    if not 0 <= behind - first <= line[place][1]:
        return False
    many = sum(map(len, standing))
    for (low, high), group in zip(blocks(line, many), groups(line, standing)):
        wished = sum(1 for train in group if train in wish and wish[train] == place)
        if wished > 0 and wished > sum(1 for at in range(first, behind) if low <= at <= high):
            return False
    return True


def each_list(line, many):
    """All lists of numbers from 0 to many, one more than places."""
    return [list(found) for found in itertools.product(range(many + 1), repeat=len(line) + 1)]


def cuts_by_hand(line, standing, wish):
    """All CUTS of the wish, in ascending order."""
    many = sum(map(len, standing))
    return [found for found in each_list(line, many) if found[0] == 0 and found[-1] == many and all(
        holds_at(line, standing, wish, place, found[place], found[place + 1]) for place in range(len(line)))]


def denied_by_hand(line, standing, wish):
    """The place that granted names, by all lists of numbers."""
    many = sum(map(len, standing))
    for place in range(len(line)):
        rest = [sum(size for _, size in line[index:]) for index in range(place + 2)]
        if not any(found[0] == 0
                   and all(holds_at(line, standing, wish, at, found[at], found[at + 1]) for at in range(place + 1))
                   and all(many - cut <= room for cut, room in zip(found, rest))
                   for found in each_list(line[:place + 1], many)):
            return place
    return None


def meets(standing, wish):
    return all(where(standing, train) == place for train, place in wish.items())


def each_wish(line, many):
    """All wishes of the trains 0, 1, .., many - 1."""
    for goals in itertools.product([None, *range(len(line))], repeat=many):
        yield {train: place for train, place in enumerate(goals) if place is not None}


class Cuts(unittest.TestCase):
    def test_example(self):
        self.assertEqual(cuts(LINE, START, {2: 2, 4: 0}), [0, 2, 3, 4])

    def test_the_first_one(self):
        self.assertEqual(cuts(LINE, START, {}), [0, 1, 3, 4])
        self.assertEqual(cuts(LINE, START, {2: 2}), [0, 1, 3, 4])
        self.assertEqual(cuts(LINE, START, {2: 1, 3: 1}), [0, 1, 3, 4])
        self.assertEqual(cuts((("yard", 3), ("yard", 3)), ((4, 5), ()), {4: 0}), [0, 1, 2])
        self.assertEqual(cuts((("yard", 3), ("yard", 3)), ((4, 5), ()), {4: 0, 5: 0}), [0, 2, 2])
        self.assertEqual(cuts((("yard", 3), ("yard", 3)), ((4, 5), ()), {}), [0, 0, 2])

    def test_none(self):
        for wish in ({1: 1}, {1: 2}, {1: 1, 2: 0}, {2: 2, 3: 2}, {2: 0, 3: 0}):
            self.assertIsNone(cuts(LINE, START, wish))

    def test_no_trains(self):
        self.assertEqual(cuts(LINE, EMPTY, {}), [0, 0, 0, 0])
        self.assertEqual(granted(LINE, EMPTY, {}), EMPTY)

    def test_full_lines(self):
        full = ((3, 2), (0, 9), (1,))
        self.assertEqual(cuts(LINE, full, {}), [0, 2, 4, 5])
        self.assertEqual(cuts(LINE, full, {3: 0, 2: 0, 0: 1, 9: 1, 1: 2}), [0, 2, 4, 5])
        self.assertIsNone(cuts(LINE, full, {0: 0}))
        self.assertEqual(granted(LINE, full, {9: 1}), full)

    def test_one_place(self):
        self.assertEqual(cuts((("track", 3),), ((7, 5),), {5: 0}), [0, 2])
        self.assertEqual(granted((("track", 3),), ((7, 5),), {5: 0}), ((7, 5),))
        self.assertEqual(granted((("yard", 1),), ((7,),), {7: 0}), ((7,),))

    def test_by_name_and_with_lists(self):
        found = cuts(wish={2: 2, 4: 0}, standing=as_lists(START), line=as_lists(LINE))
        self.assertEqual((type(found), found), (list, [0, 2, 3, 4]))
        found.clear()
        self.assertEqual(cuts(LINE, START, {2: 2, 4: 0}), [0, 2, 3, 4])

    def test_wide(self):
        self.assertEqual(cuts(WIDE, WIDE_START, {}), [0] * 16 + [30])
        wish = {train: train % 16 for train in range(30)}
        found = cuts(WIDE, WIDE_START, wish)
        # The trains from 0 to 13 and from 16 to 29 give two to each place but the last two.
        self.assertEqual(found, list(range(0, 28, 2)) + [28, 29, 30])
        self.assertIsNone(cuts((("track", 30),) * 16, WIDE_START, wish))
        # Thirty trains that stay in their order, two to each place.
        track = {train: train // 2 for train in range(30)}
        self.assertEqual(cuts((("track", 30),) * 16, WIDE_START, track), cuts_of(WIDE_START))


class Granted(unittest.TestCase):
    def check_granted(self, line, standing, wish):
        found = granted(line, standing, wish)
        self.assertTrue(is_standing(line, found))
        self.assertTrue(leads(line, standing, found))
        for train, place in wish.items():
            self.assertEqual(place_of(found, train), place)
        return found

    def test_example(self):
        self.check_granted(LINE, START, {2: 2, 4: 0})
        with self.assertRaises(Denied) as caught:
            granted(LINE, START, {1: 1})
        self.assertEqual(caught.exception.place, 1)

    def test_empty_wish_and_wish_for_all(self):
        self.check_granted(LINE, START, {})
        self.assertEqual(self.check_granted(LINE, START, {1: 0, 2: 2, 3: 1, 4: 1}), ((1,), (3, 4), (2,)))
        self.check_granted(LINE, START, {1: 0, 2: 1, 3: 0, 4: 2})

    def test_the_place_that_is_named(self):
        denied = [({1: 2}, 2), ({2: 0, 3: 0}, 0), ({2: 2, 3: 2}, 2), ({1: 1, 2: 0}, 1), ({1: 1, 2: 2, 3: 2}, 1),
                  ({2: 1, 3: 1, 4: 1}, 1)]
        for wish, place in denied:
            with self.subTest(wish=wish), self.assertRaises(Denied) as caught:
                granted(LINE, START, wish)
            self.assertEqual(caught.exception.place, place)
            self.assertEqual(denied_by_hand(LINE, START, wish), place)

    def test_the_room_to_the_right_counts(self):
        # Train 7 would be the first one at place 1, but then all four trains would need room at places of size 3.
        line, standing = (("track", 2), ("track", 2), ("track", 1)), ((7, 5), (9,), (4,))
        for wish, place in (({7: 1}, 1), ({7: 2}, 2), ({4: 0}, 0), ({5: 2}, 2)):
            with self.subTest(wish=wish), self.assertRaises(Denied) as caught:
                granted(line, standing, wish)
            self.assertEqual(caught.exception.place, place)
            self.assertEqual(denied_by_hand(line, standing, wish), place)

    def test_by_name_and_with_lists(self):
        found = granted(wish={2: 2}, standing=as_lists(START), line=as_lists(LINE))
        self.assertEqual(repr(found), repr(granted(LINE, START, {2: 2})))

    def test_wide(self):
        self.check_granted(WIDE, WIDE_START, {})
        self.check_granted(WIDE, WIDE_START, {train: train % 16 for train in range(30)})
        self.check_granted(WIDE, WIDE_START, {train: 15 - train // 2 for train in range(30)})
        self.check_granted(WIDE, WIDE_START, {train: 0 for train in range(30)})
        line = (("yard", 30),) + (("track", 30),) * 15
        self.check_granted(line, WIDE_START, {29: 0, 0: 15, 14: 7})
        tracks = (("track", 30),) * 16
        self.check_granted(tracks, WIDE_START, {29: 0})
        self.check_granted(tracks, WIDE_START, {0: 15})
        with self.assertRaises(Denied) as caught:
            granted(tracks, WIDE_START, {29: 9, 3: 10})
        self.assertEqual(caught.exception.place, 10)


class ShowsCuts(Thing):
    def test_example(self):
        self.check(shows_cuts(LINE, START, {2: 2}, [0, 1, 3, 4]), True)

    def test_all_of_them_and_no_others(self):
        for wish in ({}, {2: 2}, {2: 2, 4: 0}, {1: 0}, {1: 1}, {4: 1, 3: 1}):
            right = cuts_by_hand(LINE, START, wish)
            self.assertEqual(cuts(LINE, START, wish), right[0] if right else None)
            for thing in itertools.product(range(-1, 6), repeat=4):
                self.check(shows_cuts(LINE, START, wish, list(thing)), list(thing) in right)
                self.check(shows_cuts(LINE, START, wish, thing), False)

    def test_other_things(self):
        for wish in ({}, {2: 2}, {1: 1}):
            self.all_of(STRANGE + [[], (0, 1, 3, 4), "0134", [0, 1, 3, 4, 4], [0, 1, 3], [0, 0, 1, 3, 4],
                                   [0, 2, 1, 4], [1, 2, 4, 4], [0, 1, 3, 3], [0, 1, 3, 5], [0, 0, 2, 4], [0, 2, 5, 4],
                                   [0, 1, 3, None], [[0], 1, 3, 4], ["0", "1", "3", "4"], [0, (1,), 3, 4]],
                        lambda thing: shows_cuts(LINE, START, wish, thing))
            self.all_of([thing for thing in near_misses([0, 1, 3, 4])
                         if repr(thing) not in map(repr, cuts_by_hand(LINE, START, wish))],
                        lambda thing: shows_cuts(LINE, START, wish, thing))

    def test_numbers_that_python_takes_for_true_and_false(self):
        line, standing = (("yard", 2), ("yard", 2)), ((5,), ())
        self.check(shows_cuts(line, standing, {}, [0, 1, 1]), True)
        self.all_of([[False, 1, 1], [0, True, 1], [0, 1, True], [0, False, 1]],
                    lambda thing: shows_cuts(line, standing, {}, thing))

    def test_by_name_and_with_lists(self):
        self.check(shows_cuts(thing=[0, 1, 3, 4], wish={2: 2}, standing=as_lists(START), line=as_lists(LINE)), True)

    def test_wide(self):
        wish = {train: train // 2 for train in range(30)}
        self.check(shows_cuts(WIDE, WIDE_START, wish, cuts(WIDE, WIDE_START, wish)), True)
        self.check(shows_cuts(WIDE, WIDE_START, wish, cuts_of(WIDE_START)), True)
        self.check(shows_cuts(WIDE, WIDE_START, {}, [0] + [30] * 16), True)
        self.check(shows_cuts(WIDE, WIDE_START, wish, [0] + [30] * 16), False)


class Errors(unittest.TestCase):
    def check_all(self, wish, wrong, attribute, value):
        before = copy.deepcopy(wish)
        for standing in (START, as_lists(START)):
            for ask in ASK + tuple(lambda line, its, told, thing=thing: shows_cuts(line, its, told, thing)
                                   for thing in (None, 0, (), "a", [0, 1, 3, 4])):
                with self.assertRaises(wrong) as caught:
                    ask(LINE, standing, wish)
                self.assertEqual(getattr(caught.exception, attribute), value)
                self.assertEqual(wish, before)

    def test_trains_that_stand_nowhere(self):
        for train in (0, 5, -1, -4, 10 ** 9, 10 ** 5000, -(10 ** 5000)):
            self.check_all({train: 0}, NoTrain, "train", train)
            self.check_all({1: 0, train: 1, 2: 0}, NoTrain, "train", train)

    def test_the_least_one(self):
        self.check_all({9: 0, 7: 1, 8: 2, 1: 0}, NoTrain, "train", 7)
        self.check_all({9: 0, -7: 1, -8: 2, 1: 0}, NoTrain, "train", -8)

    def test_places_that_are_none_of_the_line(self):
        for place in (3, 4, -1, -3, 10 ** 9, 10 ** 5000, -(10 ** 5000)):
            self.check_all({1: place}, NoPlace, "place", place)
            self.check_all({2: 1, 1: place, 3: 2}, NoPlace, "place", place)

    def test_the_least_place(self):
        self.check_all({1: 9, 2: 7, 3: 8, 4: 0}, NoPlace, "place", 7)
        self.check_all({1: 9, 2: -7, 3: -8, 4: 0}, NoPlace, "place", -8)

    def test_trains_before_places(self):
        self.check_all({1: -1, 9: 0, 2: 1}, NoTrain, "train", 9)
        self.check_all({1: -1, 9: -5}, NoTrain, "train", 9)

    def test_places_before_denied(self):
        self.check_all({1: 1, 2: 3}, NoPlace, "place", 3)

    def test_no_trains(self):
        for ask in ASK:
            self.assertRaises(NoTrain, ask, LINE, EMPTY, {1: 0})

    def test_a_wish_does_not_change(self):
        for wish in ({4: 0, 2: 2}, {1: 1}, {}, {4: 1, 3: 1, 2: 0, 1: 0}):
            before = list(wish.items())
            for ask in ASK:
                try:
                    ask(LINE, START, wish)
                except Denied:
                    pass
                self.assertEqual(list(wish.items()), before)


class AgainstASearch(Thing):
    def each_wish(self):
        for line in small_lines()[::3] + LONGER:
            for many in range(min(capacity(line), 3) + 1):
                standing = fillings(line, tuple(range(many)))[0]
                lot = reached(line, standing)
                for wish in each_wish(line, many):
                    yield line, standing, lot, wish

    def test_cuts_granted_and_denied(self):
        for line, standing, lot, wish in self.each_wish():
            right = cuts_by_hand(line, standing, wish)
            self.assertEqual(cuts(line, standing, wish), right[0] if right else None)
            self.check(right != [], any(meets(other, wish) for other in lot))
            if right:
                found = granted(line, standing, wish)
                self.assertTrue(found in lot and meets(found, wish))
            else:
                with self.assertRaises(Denied) as caught:
                    granted(line, standing, wish)
                self.assertEqual(caught.exception.place, denied_by_hand(line, standing, wish))

    def test_shows_cuts(self):
        for line, standing, _, wish in self.each_wish():
            if len(line) < 4:
                right = cuts_by_hand(line, standing, wish)
                for thing in each_list(line, sum(map(len, standing))):
                    self.check(shows_cuts(line, standing, wish, thing), thing in right)

    def test_every_wish_that_a_reached_standing_meets(self):
        for line in LONGER:
            standing = fillings(line, tuple(range(5)))[0]
            lot = sorted(reached(line, standing))
            for goal in lot[::5]:
                wish = {train: where(goal, train) for train in range(5)}
                self.assertIsNotNone(cuts(line, standing, wish))
                self.assertTrue(meets(granted(line, standing, wish), wish))


if __name__ == "__main__":
    unittest.main()

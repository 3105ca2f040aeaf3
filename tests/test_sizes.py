import itertools
import unittest

from passyards.blocks import blocks, groups
from passyards.errors import NoPlace
from passyards.leading import leads
from passyards.lines import capacity, is_line
from passyards.sizes import is_free, joining_places, least_size, most_trains, with_size
from samples import LINE, WIDE, as_lists
from search import lots, small_lines
from things import Thing

NO_PLACES = (3, 4, -1, -3, 10 ** 9, 10 ** 5000, -(10 ** 5000))
STEPS = (("track", 1), ("yard", 2), ("track", 1), ("yard", 2), ("track", 1))
TWO_YARDS = (("yard", 2), ("track", 1), ("yard", 2))


def longer_lines():
    """Lines of four places, with the yards and tracks of several sizes."""
    places = [("track", 1), ("track", 3), ("yard", 1), ("yard", 2), ("yard", 4)]
    return list(itertools.product(places, repeat=4))


def in_one_block(line, many):
    return len(blocks(line, many)) <= 1


def resized(line, place, size):
    return line[:place] + ((line[place][0], size),) + line[place + 1:]


def least_by_hand(line, many, place):
    """The least size by trying all of them, far beyond what could matter."""
    for size in range(1, many + 40):
        tried = resized(line, place, size)
        if capacity(tried) >= many and in_one_block(tried, many):
            return size
    return None


class WithSize(unittest.TestCase):
    def test_example(self):
        self.assertEqual(with_size(LINE, 2, 2), (("track", 2), ("yard", 2), ("track", 2)))

    def test_each_place_and_size(self):
        for line in (LINE, WIDE, (("yard", 1),)):
            for place in range(len(line)):
                for size in (1, 2, 29, 30, 10 ** 9):
                    found = with_size(line, place, size)
                    self.assertEqual(found, resized(line, place, size))
                    self.assertTrue(is_line(found))

    def test_no_place(self):
        for place in NO_PLACES:
            with self.assertRaises(NoPlace) as caught:
                with_size(LINE, place, 2)
            self.assertEqual(caught.exception.place, place)

    def test_by_name_and_with_lists(self):
        line = as_lists(LINE)
        found = with_size(size=2, place=2, line=line)
        self.assertEqual(repr(found), "(('track', 2), ('yard', 2), ('track', 2))")
        self.assertEqual(line, as_lists(LINE))


class IsFree(Thing):
    def test_examples(self):
        self.check(is_free(LINE, 3), True)
        self.check(is_free(LINE, 4), False)

    def test_none_and_one(self):
        for line in small_lines() + [LINE, WIDE, (("track", 30),) * 16]:
            self.check(is_free(line, 0), True)
            self.check(is_free(line, 1), True)

    def test_one_place(self):
        self.check(is_free((("yard", 30),), 30), True)
        self.check(is_free((("track", 30),), 2), False)
        self.check(is_free((("yard", 2),), 2), True)
        self.check(is_free((("track", 1), ("yard", 1)), 2), False)

    def test_every_number_of_trains(self):
        self.assertEqual([is_free(STEPS, many) for many in range(8)], [True] * 6 + [False] * 2)
        self.assertEqual([is_free(TWO_YARDS, many) for many in range(6)], [True] * 4 + [False] * 2)
        line = (("track", 1), ("yard", 9), ("track", 9))
        self.assertEqual([many for many in range(20) if is_free(line, many)], list(range(11)))

    def test_wide(self):
        self.check(is_free(WIDE, 30), True)
        self.check(is_free(WIDE, 480), False)
        self.check(is_free((("yard", 30),) * 16, 479), True)
        self.check(is_free((("yard", 30),) * 16, 480), False)

    def test_blocks_word_by_word(self):
        for line in small_lines() + longer_lines() + [WIDE]:
            for many in range(min(capacity(line), 60) + 1):
                self.check(is_free(line, many), in_one_block(line, many))

    def test_every_order_can_be_reached(self):
        for line in small_lines():
            for many in range(min(capacity(line), 4) + 1):
                self.check(is_free(line, many), len(lots(line, many)) == 1)

    def test_by_name_and_with_lists(self):
        self.check(is_free(many=3, line=as_lists(LINE)), True)


class LeastSize(unittest.TestCase):
    def test_examples(self):
        self.assertEqual(least_size(LINE, 4, 2), 2)
        self.assertEqual(least_size((("track", 3), ("track", 4)), 1, 1), 1)

    def test_whatever_size_it_has_now(self):
        for size in (1, 2, 3, 30):
            self.assertEqual(least_size(resized(LINE, 2, size), 4, 2), 2)
            self.assertEqual(least_size(resized(LINE, 1, size), 4, 1), least_by_hand(LINE, 4, 1))

    def test_none_and_one(self):
        for many in (0, 1):
            for place in range(3):
                self.assertEqual(least_size(LINE, many, place), 1)

    def test_no_size_will_do(self):
        self.assertIsNone(least_size((("track", 3), ("track", 4)), 2, 1))
        self.assertIsNone(least_size((("track", 3), ("yard", 1)), 30, 0))
        self.assertIsNone(least_size((("track", 30),) * 16, 2, 15))
        self.assertEqual(least_size((("track", 3), ("yard", 1)), 2, 1), 2)

    def test_above_the_present_capacity(self):
        self.assertEqual(least_size((("yard", 1),), 30, 0), 30)
        self.assertEqual(least_size((("track", 1), ("yard", 1)), 30, 1), 30)
        self.assertEqual(least_size((("track", 5), ("yard", 1)), 30, 1), 30)
        self.assertEqual(least_size((("yard", 2), ("track", 1)), 5, 1), None)
        self.assertEqual(least_size(LINE, 30, 1), 29)

    def test_a_place_that_needs_room_only(self):
        line = (("yard", 9), ("track", 1))
        self.assertEqual([least_size(line, many, 1) for many in range(12)], [1] * 10 + [None, None])

    def test_all_small_lines(self):
        for line in small_lines() + longer_lines()[::2]:
            for many in range(min(capacity(line), 9) + 4):
                for place in range(len(line)):
                    self.assertEqual(least_size(line, many, place), least_by_hand(line, many, place))

    def test_wide(self):
        for many in (0, 2, 29, 30):
            for place in range(16):
                self.assertEqual(least_size(WIDE, many, place), 1)
        self.assertEqual(least_size((("track", 30),) * 15 + (("yard", 1),), 30, 15), 30)
        self.assertEqual(least_size((("track", 1),) * 15 + (("yard", 1),), 30, 15), 30)

    def test_no_place(self):
        for place in NO_PLACES:
            for many in (0, 4, 30):
                with self.assertRaises(NoPlace) as caught:
                    least_size(LINE, many, place)
                self.assertEqual(caught.exception.place, place)

    def test_by_name_and_with_lists(self):
        self.assertEqual(least_size(place=2, many=4, line=as_lists(LINE)), 2)


class MostTrains(unittest.TestCase):
    def test_example(self):
        self.assertEqual(most_trains(LINE), 3)

    def test_one_place(self):
        self.assertEqual([most_trains((("track", size),)) for size in (1, 2, 30)], [1, 1, 1])
        self.assertEqual([most_trains((("yard", size),)) for size in (1, 2, 30)], [1, 2, 30])

    def test_tracks_and_yards_of_size_1(self):
        self.assertEqual(most_trains((("yard", 1),) * 16), 1)
        self.assertEqual(most_trains((("track", 30),) * 16), 1)

    def test_all_small_lines(self):
        for line in small_lines() + longer_lines() + [TWO_YARDS, STEPS]:
            self.assertEqual(most_trains(line), max(many for many in range(capacity(line) + 1)
                                                    if in_one_block(line, many)))

    def test_wide(self):
        self.assertEqual(most_trains((("yard", 30),) * 16), 479)
        self.assertEqual(most_trains(WIDE), max(many for many in range(481) if in_one_block(WIDE, many)))

    def test_sizes_that_were_read_from_a_text(self):
        most = 9999999999
        self.assertEqual(most_trains((("yard", most),)), most)
        self.assertEqual(most_trains((("track", most), ("track", most))), 1)
        self.assertEqual(most_trains((("track", 3), ("yard", most), ("track", 1))), most + 1)
        self.assertEqual(least_size((("track", 3), ("yard", 1), ("track", 1)), most, 1), most - 1)
        self.assertEqual(joining_places((("yard", most), ("yard", 1)), 30), [])

    def test_by_name_and_with_lists(self):
        self.assertEqual(most_trains(line=as_lists(LINE)), 3)


class JoiningPlaces(unittest.TestCase):
    def test_example(self):
        self.assertEqual(joining_places(LINE, 4), [1, 2])

    def test_nothing_to_join(self):
        for many in (0, 1, 2, 3):
            self.assertEqual(joining_places(LINE, many), [])
        self.assertEqual(joining_places((("track", 30),) * 16, 30), [])

    def test_a_yard_of_size_1(self):
        self.assertEqual(joining_places((("track", 2), ("yard", 1)), 2), [1])
        self.assertEqual(joining_places((("yard", 1),), 1), [])

    def test_full_lines(self):
        self.assertEqual(joining_places(LINE, 5), [0, 1, 2])
        self.assertEqual(joining_places((("yard", 2), ("yard", 2)), 4), [0, 1])
        self.assertEqual(joining_places((("track", 3),), 3), [])

    def test_all_small_lines(self):
        for line in small_lines() + longer_lines()[::2]:
            for many in range(capacity(line) + 1):
                now = len(blocks(line, many))
                expected = [place for place in range(len(line))
                            if len(blocks(resized(line, place, line[place][1] + 1), many)) < now]
                self.assertEqual(joining_places(line, many), expected)

    def test_fewer_lots_of_standings(self):
        for line in small_lines():
            for many in range(min(capacity(line), 3) + 1):
                now = self.longest_groups(line, many)
                expected = [place for place in range(len(line))
                            if self.longest_groups(resized(line, place, line[place][1] + 1), many) < now]
                self.assertEqual(joining_places(line, many), expected)

    def longest_groups(self, line, many):
        """How many blocks there are, found by a search: the trains of two blocks never change order."""
        lot = max(lots(line, many), key=len)
        one = min(lot)
        self.assertTrue(all(leads(line, one, other) for other in lot))
        return len(groups(line, one))

    def test_wide(self):
        self.assertEqual(joining_places(WIDE, 30), [])
        line = (("yard", 2),) * 15 + (("track", 1),)
        self.assertEqual(joining_places(line, 30), [place for place in range(16)
                                                    if len(blocks(with_size(line, place, line[place][1] + 1), 30))
                                                    < len(blocks(line, 30))])

    def test_by_name_and_with_lists(self):
        found = joining_places(many=4, line=as_lists(LINE))
        self.assertEqual((type(found), found), (list, [1, 2]))
        found.clear()
        self.assertEqual(joining_places(LINE, 4), [1, 2])


if __name__ == "__main__":
    unittest.main()

import itertools
import unittest

from passyards.slides import cuts_of, distance_of, nearest, slide
from samples import LINE, START, WIDE, WIDE_START
from search import fillings, small_lines


# Longer lines, in which a place of size 1 stands between others that take more trains.
LONGER = [(("track", 2), ("track", 1), ("track", 3)), (("track", 3), ("yard", 1), ("yard", 2)),
          (("yard", 2), ("track", 1), ("track", 2), ("yard", 1), ("track", 3))]


def standings_of(line, many):
    """The standings of the trains 0, 1, .., many - 1 in this order."""
    return fillings(line, tuple(range(many)))


class Slides(unittest.TestCase):
    def test_cuts(self):
        self.assertEqual(cuts_of(START), [0, 2, 4, 4])
        self.assertEqual(cuts_of(((), ())), [0, 0, 0])
        self.assertEqual(cuts_of(WIDE_START), [*range(0, 31, 2), 30])

    def test_every_slide_is_possible_and_as_short_as_it_can_be(self):
        for line in small_lines() + LONGER:
            for many in range(min(5, sum(size for _, size in line)) + 1):
                for one, other in itertools.product(standings_of(line, many), repeat=2):
                    self.check_slide(line, cuts_of(one), cuts_of(other))

    def check_slide(self, line, cuts, goal):
        row = list(range(100, 100 + cuts[-1]))
        path = slide(line, row, cuts, goal)
        self.assertEqual(len(path), distance_of(cuts, goal))
        now = list(cuts)
        for train, side in path:
            at = next(at for at in range(1, len(line)) if self.train_at(row, now, at, side) == train
                      and self.is_cuts(line, self.crossed(now, at, side)))
            now = self.crossed(now, at, side)
        self.assertEqual(now, goal)

    def train_at(self, row, cuts, at, side):
        """The train that crosses the cut to that side, or None."""
        at = cuts[at] - 1 if side == "right" else cuts[at]
        return row[at] if 0 <= at < len(row) else None

    def crossed(self, cuts, at, side):
        return cuts[:at] + [cuts[at] + (-1 if side == "right" else 1)] + cuts[at + 1:]

    def is_cuts(self, line, cuts):
        return all(0 <= behind - first <= size for first, behind, (_, size) in zip(cuts, cuts[1:], line))

    def test_the_nearest_cuts(self):
        for line in small_lines():
            for many in range(min(5, sum(size for _, size in line)) + 1):
                every = [cuts_of(standing) for standing in standings_of(line, many)]
                for cuts, goal, place in itertools.product(every, every, range(len(line))):
                    first, behind = goal[place], goal[place + 1]
                    near = nearest(line, cuts, place, first, behind)
                    self.assertEqual((near[place], near[place + 1]), (first, behind))
                    self.assertIn(near, every)
                    self.assertEqual(distance_of(cuts, near), min(
                        distance_of(cuts, other) for other in every if other[place:place + 2] == [first, behind]))

    def test_wide(self):
        left = [0] + [30] * 16
        right = [0] * 16 + [30]
        self.assertEqual(len(slide(WIDE, list(range(30)), left, right)), 450)
        self.assertEqual(slide(LINE, [1, 2, 3, 4], [0, 2, 4, 4], [0, 1, 3, 4]), [(4, "right"), (2, "right")])


if __name__ == "__main__":
    unittest.main()

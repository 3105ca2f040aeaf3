import unittest

from passyards.blocks import block_of, blocks, blocks_at, groups, joints, order
from passyards.errors import NoTrain
from passyards.lines import capacity, place_of, trains
from samples import LINE, START, WIDE, WIDE_START, as_lists
from search import every_standing, fillings, reached, small_lines


def searched_joints(line, standings):
    """The positions j for which some standing has the trains of positions j and j + 1 in one yard."""
    found = set()
    for standing in standings:
        at = 0
        for (kind, _), held in zip(line, standing):
            if kind == "yard":
                found.update(range(at, at + len(held) - 1))
            at += len(held)
    return sorted(found)


class Order(unittest.TestCase):
    def test_example(self):
        self.assertEqual(order(LINE, START), [1, 2, 3, 4])

    def test_tracks_keep_and_yards_ascend(self):
        self.assertEqual(order(LINE, ((9, 2), (3, 8), (0,))), [9, 2, 3, 8, 0])
        self.assertEqual(order((("yard", 3), ("track", 3)), ((1, 5, 7), (6, 4, 2))), [1, 5, 7, 6, 4, 2])

    def test_by_name_and_with_lists(self):
        self.assertEqual(order(standing=as_lists(START), line=as_lists(LINE)), [1, 2, 3, 4])

    def test_no_trains(self):
        self.assertEqual(order(LINE, ((), (), ())), [])

    def test_wide(self):
        self.assertEqual(order(WIDE, WIDE_START), list(range(30)))

    def test_belongs_to_the_caller(self):
        standing = [[2, 1], [], []]
        row = order(LINE, standing)
        row.append(9)
        self.assertEqual(standing, [[2, 1], [], []])
        self.assertEqual(order(LINE, standing), [2, 1])


class Joints(unittest.TestCase):
    def test_example(self):
        self.assertEqual(joints(LINE, 4), [1, 2])

    def test_every_number_of_trains(self):
        self.assertEqual([joints(LINE, many) for many in range(6)], [[], [], [0], [0, 1], [1, 2], [2]])

    def test_by_name_and_with_lists(self):
        self.assertEqual(joints(many=4, line=as_lists(LINE)), [1, 2])

    def test_a_yard_of_size_1_joins_nothing(self):
        self.assertEqual(joints((("track", 2), ("yard", 1), ("track", 2)), 3), [])
        self.assertEqual(joints((("yard", 1),) * 5, 2), [])

    def test_a_yard_of_size_2_joins_one_pair_when_the_line_is_full(self):
        self.assertEqual(joints((("track", 2), ("yard", 2), ("track", 2)), 6), [2])

    def test_tracks_join_nothing(self):
        for many in range(61):
            self.assertEqual(joints((("track", 30), ("track", 30)), many), [])

    def test_sizes_of_30(self):
        line = (("track", 30), ("yard", 30), ("track", 30))
        self.assertEqual(joints(line, 30), list(range(29)))
        self.assertEqual(joints(line, 90), list(range(30, 59)))
        self.assertEqual(joints(line, 89), list(range(29, 59)))
        self.assertEqual(joints((("yard", 30),), 30), list(range(29)))

    def test_wide(self):
        self.assertEqual(joints(WIDE, 30), list(range(29)))
        full = [at for place in range(16) if place % 3 == 1 for at in range(30 * place, 30 * place + 29)]
        self.assertEqual(joints(WIDE, 480), full)

    def test_two_yards_that_overlap(self):
        line = (("yard", 2), ("track", 1), ("yard", 2))
        self.assertEqual([joints(line, many) for many in range(6)], [[], [], [0], [0, 1], [0, 2], [0, 3]])

    def test_belongs_to_the_caller(self):
        joints(LINE, 4).clear()
        self.assertEqual(joints(LINE, 4), [1, 2])


class Blocks(unittest.TestCase):
    def test_examples(self):
        self.assertEqual(blocks(LINE, 4), [(0, 0), (1, 3)])
        self.assertEqual(blocks(LINE, 3), [(0, 2)])

    def test_no_trains(self):
        self.assertEqual(blocks(LINE, 0), [])

    def test_one_train(self):
        self.assertEqual(blocks(LINE, 1), [(0, 0)])
        self.assertEqual(blocks((("track", 1),), 1), [(0, 0)])

    def test_as_many_as_the_capacity(self):
        self.assertEqual(blocks(LINE, 5), [(0, 0), (1, 1), (2, 3), (4, 4)])
        self.assertEqual(blocks((("yard", 2), ("yard", 1), ("yard", 3)), 6), [(0, 1), (2, 2), (3, 5)])

    def test_tracks_alone(self):
        self.assertEqual(blocks((("track", 3), ("yard", 1)), 4), [(0, 0), (1, 1), (2, 2), (3, 3)])

    def test_by_name_and_with_lists(self):
        self.assertEqual(blocks(many=3, line=as_lists(LINE)), [(0, 2)])

    def test_wide(self):
        self.assertEqual(blocks(WIDE, 30), [(0, 29)])
        self.assertEqual(len(blocks(WIDE, 480)), 480 - 5 * 29)

    def test_runs_between_positions_that_are_no_joints(self):
        for line in small_lines():
            for many in range(capacity(line) + 1):
                found = blocks(line, many)
                inner = [at for first, last in found for at in range(first, last)]
                covered = [at for first, last in found for at in range(first, last + 1)]
                self.assertEqual(inner, joints(line, many))
                self.assertEqual(covered, list(range(many)))

    def test_kinds_and_owner(self):
        found = blocks(as_lists(LINE), 4)
        self.assertEqual([type(found)] + [type(pair) for pair in found], [list, tuple, tuple])
        found.clear()
        self.assertEqual(blocks(LINE, 4), [(0, 0), (1, 3)])


class BlocksAt(unittest.TestCase):
    def test_each_place(self):
        self.assertEqual(blocks_at(LINE, 4), [[0, 1], [1], [1]])
        self.assertEqual(blocks_at(LINE, 5), [[0, 1], [2], [3]])
        self.assertEqual(blocks_at(LINE, 0), [[], [], []])
        self.assertEqual(blocks_at(WIDE, 30), [[0]] * 16)


class Groups(unittest.TestCase):
    def test_example(self):
        self.assertEqual(groups(LINE, START), [(1,), (2, 3, 4)])

    def test_ascending_in_each_block(self):
        self.assertEqual(groups(LINE, ((9, 7), (2, 5), ())), [(9,), (2, 5, 7)])
        self.assertEqual(groups(LINE, ((8, 4), (), (1,))), [(1, 4, 8)])

    def test_no_trains(self):
        self.assertEqual(groups(LINE, ((), (), ())), [])

    def test_full(self):
        self.assertEqual(groups(LINE, ((3, 2), (0, 9), (1,))), [(3,), (2,), (0, 9), (1,)])

    def test_wide(self):
        self.assertEqual(groups(WIDE, WIDE_START), [tuple(range(30))])

    def test_by_name_and_with_lists(self):
        standing = [[2, 1], (3, 4), []]
        found = groups(standing=standing, line=as_lists(LINE))
        self.assertEqual(found, [(2,), (1, 3, 4)])
        self.assertEqual([type(found)] + [type(group) for group in found], [list, tuple, tuple])
        found.clear()
        self.assertEqual(groups(LINE, standing), [(2,), (1, 3, 4)])
        self.assertEqual(standing, [[2, 1], (3, 4), []])


class BlockOf(unittest.TestCase):
    def test_example(self):
        self.assertEqual(block_of(LINE, START, 3), 1)

    def test_each_train(self):
        self.assertEqual([block_of(LINE, START, train) for train in (1, 2, 3, 4)], [0, 1, 1, 1])
        full = ((3, 2), (0, 9), (1,))
        self.assertEqual([block_of(LINE, full, train) for train in (3, 2, 0, 9, 1)], [0, 1, 2, 2, 3])

    def test_by_name_and_with_lists(self):
        self.assertEqual(block_of(train=1, standing=as_lists(START), line=as_lists(LINE)), 0)

    def test_a_train_that_stands_nowhere(self):
        for train in (0, 5, -1, -4, 10 ** 9, 10 ** 5000, -(10 ** 5000)):
            for standing in (START, ((), (), ())):
                with self.assertRaises(NoTrain) as caught:
                    block_of(LINE, standing, train)
                self.assertEqual(caught.exception.train, train)


class AgainstASearch(unittest.TestCase):
    def test_joints_are_the_pairs_that_can_share_a_yard(self):
        for line in small_lines():
            for many in range(capacity(line) + 1):
                standings = fillings(line, tuple(range(many)))
                self.assertEqual(joints(line, many), searched_joints(line, standings), (line, many))

    def test_the_groups_tell_which_standing_leads_to_which(self):
        for line in small_lines():
            for many in range(min(capacity(line), 4) + 1):
                self.check_lots(line, every_standing(line, many))

    def check_lots(self, line, every):
        by_groups = {}
        for standing in every:
            by_groups.setdefault(tuple(groups(line, standing)), set()).add(standing)
        for lot in by_groups.values():
            self.assertEqual(reached(line, min(lot)), lot, line)

    def test_block_of_agrees_with_groups(self):
        for line in small_lines():
            for standing in fillings(line, tuple(range(min(capacity(line), 4)))):
                found = groups(line, standing)
                for train in trains(standing):
                    self.assertIn(train, found[block_of(line, standing, train)])
                    self.assertIn(train, standing[place_of(standing, train)])


if __name__ == "__main__":
    unittest.main()

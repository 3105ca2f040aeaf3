import itertools
import unittest

from passyards.blocks import block_of, blocks
from passyards.errors import NoPlace
from passyards.lines import capacity
from passyards.sightings import blocks_for, fits, overfull, shows_run
from samples import LINE, WIDE, as_lists
from search import lots, small_lines, where
from things import STRANGE, Thing, near_misses

SEEN = [(7, 0), (8, 0), (7, 2)]
THREE = [(7, 0), (8, 0), (9, 0)]
TRACKS = (("track", 2), ("track", 1), ("track", 2))
STEPS = (("track", 1), ("yard", 2), ("track", 1), ("yard", 2), ("track", 1))


def allowed_by_hand(line, many, sightings):
    """For each seen train the set of the blocks that its sightings allow, word by word as point [14] says it."""
    found = {}
    for train, place in sightings:
        high = sum(size for _, size in line[:place + 1])
        low = max(0, many - sum(size for _, size in line[place:]))
        here = {block for block, (first, last) in enumerate(blocks(line, many))
                for at in range(first, last + 1) if low <= at < high}
        found[train] = found.get(train, here) & here
    return found


def runs_by_hand(line, many, sightings):
    """All RUNs, word by word as point [14] says it."""
    found = blocks(line, many)
    allowed = allowed_by_hand(line, many, sightings)
    runs = [(0, 0, (train,)) for train in sorted(allowed) if not allowed[train]]
    for first, last in itertools.combinations_with_replacement(range(len(found)), 2):
        confined = [train for train in sorted(allowed)
                    if allowed[train] and allowed[train] <= set(range(first, last + 1))]
        positions = sum(end - start + 1 for start, end in found[first:last + 1])
        runs += [(first, last, some) for many_of in range(positions + 1, len(confined) + 1)
                 for some in itertools.combinations(confined, many_of)]
    return runs


def seen_sets(line, most):
    """Lists of sightings: each of up to so many trains at some places; every choice, but for the trains' names."""
    places = range(len(line))
    some = [part for many in places for part in itertools.combinations(places, many + 1)]
    for many in range(most + 1):
        for parts in itertools.combinations_with_replacement(some, many):
            yield [(train, place) for train, part in enumerate(parts) for place in part]


def with_visits(line, many):
    """Of each lot of standings one standing, and all pairs (train, place) that occur in the lot."""
    return [(min(lot), {(train, where(standing, train)) for standing in lot for train in range(many)})
            for lot in lots(line, many)]


class Fits(Thing):
    def test_example(self):
        self.check(fits(LINE, 4, SEEN), True)

    def test_no_sightings(self):
        for line in (LINE, TRACKS, WIDE, (("yard", 1),)):
            for many in (0, 1, min(30, capacity(line))):
                self.check(fits(line, many, []), True)
                self.check(fits(line, many, ()), True)

    def test_no_trains(self):
        self.check(fits(LINE, 0, [(7, 0)]), False)
        self.check(fits(LINE, 0, []), True)

    def test_more_trains_than_there_are(self):
        for many in range(6):
            self.check(fits((("yard", 3), ("yard", 3)), many, [(train, 0) for train in range(many)]), True)
            self.check(fits((("yard", 3), ("yard", 3)), many, [(train, 0) for train in range(many + 1)]), False)

    def test_sightings_that_allow_no_common_block(self):
        self.check(fits(TRACKS, 4, [(5, 0), (5, 2)]), False)
        self.check(fits(TRACKS, 4, [(5, 0), (5, 1)]), True)
        self.check(fits(TRACKS, 1, [(5, 0), (5, 2), (5, 1)]), True)

    def test_the_same_sighting_again(self):
        self.check(fits(LINE, 1, [(7, 0)] * 200), True)

    def test_full_lines(self):
        self.check(fits(LINE, 5, [(1, 0), (2, 0), (3, 1), (4, 1), (5, 2)]), True)
        self.check(fits(LINE, 5, [(1, 0), (2, 0), (3, 1), (4, 1), (5, 1)]), False)
        self.check(fits(LINE, 5, [(1, 0), (1, 1)]), False)

    def test_one_place(self):
        for kind in ("track", "yard"):
            self.check(fits(((kind, 3),), 3, [(1, 0), (2, 0), (3, 0)]), True)
            self.check(fits(((kind, 3),), 2, [(1, 0), (2, 0), (3, 0)]), False)

    def test_wide(self):
        sightings = [(train, (train + step) % 16) for train in range(30) for step in range(6)]
        self.check(fits(WIDE, 30, sightings), True)
        self.check(fits(WIDE, 30, sightings + [(30, 3)]), False)
        self.check(fits(WIDE, 29, sightings), False)
        line = (("track", 30),) * 16
        self.check(fits(line, 30, [(train, 7) for train in range(30)] * 7), True)
        self.check(fits((("track", 2),) * 16, 30, [(train, train // 2) for train in range(30)]), True)
        self.check(fits((("track", 2),) * 16, 30, [(train, 0) for train in range(5)]), False)

    def test_by_name_and_with_lists(self):
        self.check(fits(sightings=[[7, 0], (8, 0), [7, 2]], many=4, line=as_lists(LINE)), True)
        self.check(fits(LINE, 4, tuple(SEEN)), True)


class Overfull(Thing):
    def test_examples(self):
        self.assertEqual(overfull(LINE, 5, THREE), (0, 1, (7, 8, 9)))
        self.check(shows_run(LINE, 5, THREE, (0, 1, (7, 8, 9))), True)

    def test_none_if_they_fit(self):
        for line, many, sightings in ((LINE, 4, SEEN), (LINE, 0, []), (WIDE, 30, [(1, 2)]), (LINE, 5, [])):
            self.assertIsNone(overfull(line, many, sightings))
            self.all_of(STRANGE + [[], (), (0, 0, ()), (0, 0, (1,)), (0, 0, (7,)), (0, 1, (7, 8))],
                        lambda thing: shows_run(line, many, sightings, thing))

    def test_more_trains_than_there_are(self):
        self.assertEqual(overfull((("yard", 3),), 2, [(5, 0), (9, 0), (2, 0)]), (0, 0, (2, 5, 9)))
        self.check(shows_run((("yard", 3),), 2, [(5, 0), (9, 0), (2, 0)], (0, 0, (2, 5, 9))), True)

    def test_a_train_without_a_common_block(self):
        sightings = [(9, 1), (5, 0), (5, 2)]
        self.assertEqual(overfull(TRACKS, 4, sightings), (0, 0, (5,)))
        self.check(shows_run(TRACKS, 4, sightings, (0, 0, (5,))), True)
        wrong = [(0, 0, (9,)), (0, 0, (5, 9)), (0, 1, (5,)), (1, 1, (5,)), (0, 3, (5,))]
        self.all_of(near_misses((0, 0, (5,))) + wrong, lambda thing: shows_run(TRACKS, 4, sightings, thing))

    def test_such_a_train_is_in_no_other_run(self):
        sightings = [(1, 0), (1, 2), (2, 0), (3, 0), (4, 0), (5, 0)]
        self.check(shows_run(TRACKS, 4, sightings, (0, 2, (2, 3, 4, 5))), True)
        self.all_of([(0, 2, (1, 2, 3, 4)), (0, 2, (1, 2, 3, 4, 5)), (0, 3, (1, 2, 3, 4, 5))],
                    lambda thing: shows_run(TRACKS, 4, sightings, thing))

    def test_no_trains(self):
        self.assertIn(overfull(LINE, 0, [(8, 2), (3, 0)]), [(0, 0, (3,)), (0, 0, (8,))])
        for thing in ((0, 0, (3,)), (0, 0, (8,))):
            self.check(shows_run(LINE, 0, [(8, 2), (3, 0)], thing), True)
        self.all_of([(0, 0, (4,)), (0, 0, (3, 8)), (0, 0, ()), (0, 1, (3,)), (1, 1, (3,)), (-1, -1, (3,))],
                    lambda thing: shows_run(LINE, 0, [(8, 2), (3, 0)], thing))

    def test_longer_runs_and_fewer_trains(self):
        sightings = THREE + [(4, 0), (5, 2)]
        for thing in ((0, 1, (4, 7, 8)), (0, 1, (4, 7, 8, 9)), (0, 1, (7, 8, 9))):
            self.check(shows_run(LINE, 5, sightings, thing), True)
        self.all_of([(0, 0, (7, 8, 9)), (1, 1, (7, 8, 9)), (0, 2, (7, 8, 9)), (0, 2, (4, 7, 8, 9)), (1, 0, (7, 8, 9)),
                     (0, 1, (7, 8)), (0, 1, (7, 8, 8)), (0, 1, (8, 7, 9)), (0, 1, (7, 8, 10)), (0, 4, (7, 8, 9)),
                     (-4, 1, (7, 8, 9)), (0, -3, (7, 8, 9)), (0, 1, (5, 7, 8)), (1, 0, ()), (3, 0, ()), (0, 1, ())],
                    lambda thing: shows_run(LINE, 5, sightings, thing))

    def test_numbers_that_python_takes_for_true_and_false(self):
        sightings = [(0, 0), (1, 0), (2, 0)]
        self.check(shows_run(LINE, 5, sightings, (0, 1, (0, 1, 2))), True)
        self.all_of([(False, 1, (0, 1, 2)), (0, True, (0, 1, 2)), (0, 1, (False, 1, 2)), (0, 1, (0, True, 2))],
                    lambda thing: shows_run(LINE, 5, sightings, thing))
        self.check(shows_run(LINE, 0, [(1, 0)], (0, 0, (1,))), True)
        self.all_of([(False, False, (1,)), (0, False, (1,)), (False, 0, (1,)), (0, 0, (True,))],
                    lambda thing: shows_run(LINE, 0, [(1, 0)], thing))

    def test_other_things(self):
        self.all_of(STRANGE + [[], ()] + near_misses((0, 1, (7, 8, 9))),
                    lambda thing: shows_run(LINE, 5, THREE, thing))
        self.check(shows_run(LINE, 5, THREE, (0, 10 ** 5000, (7, 8, 9))), False)
        self.check(shows_run(LINE, 5, THREE, (0, 1, (7, 8, 10 ** 5000))), False)

    def test_wide(self):
        line = (("track", 2),) * 16
        sightings = [(train, 0) for train in range(5)] + [(20, 15)]
        run = overfull(line, 30, sightings)
        self.assertEqual(run, (0, 1, (0, 1, 2, 3, 4)))
        self.check(shows_run(line, 30, sightings, run), True)
        many = [(train, 3) for train in range(200)]
        self.check(shows_run(WIDE, 30, many, overfull(WIDE, 30, many)), True)

    def test_by_name_and_with_lists(self):
        run = overfull(sightings=as_lists(tuple(THREE)), many=5, line=as_lists(LINE))
        self.assertEqual(repr(run), "(0, 1, (7, 8, 9))")
        self.check(shows_run(thing=run, sightings=as_lists(tuple(THREE)), many=5, line=as_lists(LINE)), True)
        self.check(shows_run(LINE, 5, THREE, as_lists(run)), False)


class BlocksFor(unittest.TestCase):
    def test_example(self):
        self.assertEqual(blocks_for(LINE, 4, SEEN, 8), [0, 1])

    def test_seen_and_unseen(self):
        self.assertEqual(blocks_for(LINE, 4, SEEN, 7), [1])
        self.assertEqual(blocks_for(LINE, 4, SEEN, 5), [0, 1])
        self.assertEqual(blocks_for(LINE, 5, [], 5), [0, 1, 2, 3])
        self.assertEqual(blocks_for(LINE, 5, [(1, 0), (2, 0)], 1), [0, 1])
        self.assertEqual(blocks_for(LINE, 5, [(1, 0), (2, 0)], 3), [2, 3])
        self.assertEqual(blocks_for(TRACKS, 4, [(5, 0), (5, 1), (6, 0)], 6), [0])

    def test_a_train_that_others_leave_one_block(self):
        self.assertEqual(blocks_for(TRACKS, 5, [(1, 1), (2, 0)], 3), [0, 1, 3, 4])
        self.assertEqual(blocks_for(TRACKS, 5, [(1, 1), (2, 0), (3, 0), (4, 2)], 9), [3, 4])

    def test_no_trains_and_no_room_for_another_one(self):
        self.assertEqual(blocks_for(LINE, 0, [], 7), [])
        self.assertEqual(blocks_for(LINE, 0, [(7, 0)], 7), [])
        self.assertEqual(blocks_for((("yard", 2),), 2, [(1, 0), (2, 0)], 3), [])
        self.assertEqual(blocks_for((("yard", 2),), 2, [(1, 0), (2, 0)], 2), [0])

    def test_sightings_that_do_not_fit(self):
        for train in (7, 8, 9, 10):
            self.assertEqual(blocks_for(LINE, 5, THREE, train), [])
            self.assertEqual(blocks_for(TRACKS, 4, [(7, 0), (7, 2), (8, 0)], train), [])
            self.assertEqual(blocks_for((("yard", 3),), 2, THREE, train), [])

    def test_wide(self):
        line = (("track", 2),) * 16
        self.assertEqual(blocks_for(line, 30, [], 10 ** 9), list(range(30)))
        sightings = [(0, 0), (1, 0)] + [(29, 15)] * 198
        self.assertEqual(blocks_for(line, 30, sightings, 29), [28, 29])
        self.assertEqual(blocks_for(line, 30, sightings, 9), list(range(2, 30)))
        self.assertEqual(blocks_for(line, 30, sightings + [(9, 1)], 9), [2, 3])
        self.assertEqual(blocks_for(WIDE, 30, [(train, 15) for train in range(29)], 77), [0])

    def test_by_name_and_with_lists(self):
        found = blocks_for(train=8, sightings=as_lists(tuple(SEEN)), many=4, line=as_lists(LINE))
        self.assertEqual((type(found), found), (list, [0, 1]))
        found.clear()
        self.assertEqual(blocks_for(LINE, 4, SEEN, 8), [0, 1])


class NoSuchPlace(unittest.TestCase):
    def check_all(self, line, many, sightings, place):
        calls = [(fits, ()), (overfull, ()), (blocks_for, (7,)), (blocks_for, (99,))]
        calls += [(shows_run, (thing,)) for thing in (None, [], (0, 0, (7,)), (0, 1, (7, 8, 9)))]
        for ask, rest in calls:
            with self.subTest(ask=ask), self.assertRaises(NoPlace) as caught:
                ask(line, many, sightings, *rest)
            self.assertEqual(caught.exception.place, place)

    def test_any_number(self):
        for place in (3, -1, -3, 4, 10 ** 9, 10 ** 5000, -(10 ** 5000)):
            self.check_all(LINE, 4, [(7, place)], place)
            self.check_all(LINE, 0, [(7, 0), [8, place]], place)

    def test_the_first_one_is_named(self):
        self.check_all(LINE, 4, [(7, 0), (8, 5), (9, -1)], 5)
        self.check_all(LINE, 4, [(7, 2), (9, -1), (8, 5)], -1)

    def test_before_anything_else(self):
        self.check_all(LINE, 1, THREE + [(7, 3)], 3)
        self.check_all(TRACKS, 4, [(7, 0), (7, 2), (8, 3)], 3)


class ByHandAndAgainstASearch(Thing):
    def test_fits_and_blocks_for_against_a_search(self):
        for line in small_lines()[::2] + [STEPS[:4]]:
            for many in range(min(capacity(line), 3) + 1):
                visits = with_visits(line, many)
                for sightings in seen_sets(line, many + 1):
                    self.check_search(line, many, sightings, visits)

    def check_search(self, line, many, sightings, visits):
        agreeing = [standing for standing, pairs in visits if pairs.issuperset(sightings)]
        self.check(fits(line, many, sightings), agreeing != [])
        seen = len({train for train, _ in sightings})
        for train in {0, seen - 1, seen} - {-1}:
            expected = sorted({block_of(line, standing, train) for standing in agreeing if train < many})
            self.assertEqual(blocks_for(line, many, sightings, train), expected)

    def test_runs_by_hand(self):
        for line in [LINE, TRACKS, (("yard", 1), ("track", 2)), (("yard", 2), ("yard", 1), ("track", 1)), STEPS[1:4]]:
            for many in range(capacity(line) + 1):
                for sightings in seen_sets(line, min(many + 1, 4)):
                    self.check_runs(line, many, sightings[::-1])

    def check_runs(self, line, many, sightings):
        runs = runs_by_hand(line, many, sightings)
        found = overfull(line, many, sightings)
        self.check(fits(line, many, sightings), runs == [])
        self.assertTrue(found in runs if runs else found is None)
        for thing in runs:
            self.check(shows_run(line, many, sightings, thing), True)

    def test_every_small_triple(self):
        numbers = range(-1, 6)
        triples = [(first, last, some) for first in numbers for last in numbers for many in range(5)
                   for some in itertools.combinations(range(5), many)]
        for line, many in ((LINE, 4), (LINE, 5), (LINE, 0), (TRACKS, 3), (STEPS, 4), (STEPS, 6)):
            for sightings in ([(0, 0), (1, 0), (2, 0), (3, 1)], [(0, 0), (0, 2), (1, 1), (2, 1), (3, 1)],
                              [(0, 2), (1, 2), (2, 2), (3, 2)], []):
                runs = runs_by_hand(line, many, sightings)
                for thing in triples:
                    self.check(shows_run(line, many, sightings, thing), thing in runs)


if __name__ == "__main__":
    unittest.main()

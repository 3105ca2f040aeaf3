"""What point [1] promises over the whole program: that the modules agree with each other."""

import itertools
import random
import unittest

from passyards.blocks import block_of, blocks, groups, joints, order
from passyards.counting import lots_many, number_of, reachable_at, reachable_many, standings_many
from passyards.errors import Barred, Crossed, Denied
from passyards.fewest import fewest, fewest_row, reversed_pairs, shows_fewest
from passyards.leading import bar, leads, row_to, shows_bar, shows_row
from passyards.lines import capacity, counts, is_line, is_standing, place_of, trains
from passyards.moves import back, moved, moves, run
from passyards.reach import ever_ahead, may_meet, places_of
from passyards.sheet import answers
from passyards.sightings import blocks_for, fits, overfull, shows_run
from passyards.sizes import is_free, joining_places, least_size, most_trains, with_size
from passyards.small import all_from, distance, first_row
from passyards.texts import line_in, line_text, row_in, row_text, standing_in, standing_text
from passyards.wishes import cuts, granted, shows_cuts
from passyards.yard import Yard
from samples import WIDE, WIDE_START


def chosen_line(chance, longest, largest):
    return tuple((chance.choice(["track", "yard"]), chance.randrange(1, largest + 1))
                 for _ in range(chance.randrange(1, longest + 1)))


def chosen_standing(chance, line, many):
    """Some standing of that many trains, with any numbers."""
    row = chance.sample(range(10 ** 9), many)
    seats = chance.sample([place for place, (_, size) in enumerate(line) for _ in range(size)], many)
    held = [[train for train, seat in zip(row, seats) if seat == place] for place in range(len(line))]
    return tuple(tuple(sorted(some) if kind == "yard" else some) for (kind, _), some in zip(line, held))


def samples():
    """Lines and standings of all sizes that point [3] allows, the widest ones among them."""
    found = [(WIDE, WIDE_START), ((("yard", 1),), ((),)), ((("track", 2),), ((1, 0),))]
    for seed in range(120):
        chance = random.Random(seed)
        line = chosen_line(chance, *[(3, 3), (6, 4), (16, 3), (16, 30)][seed % 4])
        most = min(30, capacity(line))
        many = most if seed % 3 == 0 else chance.randrange(most + 1)
        found.append((line, chosen_standing(chance, line, many)))
    return found


class Whole(unittest.TestCase):
    def each(self):
        for seed, (line, standing) in enumerate(samples()):
            self.assertTrue(is_line(line) and is_standing(line, standing))
            yield random.Random(seed), line, standing

    def others(self, chance, line, standing):
        """Some standings to which this one leads."""
        many = reachable_many(line, standing)
        return [reachable_at(line, standing, chance.randrange(many)) for _ in range(3)]

    def test_a_reachable_standing_is_led_to(self):
        for chance, line, standing in self.each():
            for other in self.others(chance, line, standing):
                self.assertTrue(is_standing(line, other))
                self.assertTrue(leads(line, standing, other) and leads(line, other, standing))
                self.assertIsNone(bar(line, standing, other))
                row = row_to(line, standing, other)
                self.assertEqual(run(line, standing, row), other)
                self.assertEqual(run(line, other, back(row)), standing)
                self.assertTrue(shows_row(line, standing, other, row))
                self.assertEqual(groups(line, other), groups(line, standing))
                number = number_of(line, standing, other)
                self.assertEqual(reachable_at(line, other, number), other)

    def test_moves_lead_to_reachable_standings(self):
        for chance, line, standing in self.each():
            for move in moves(line, standing):
                other = moved(line, standing, move)
                self.assertTrue(leads(line, standing, other))
                self.assertEqual(groups(line, other), groups(line, standing))
                self.assertEqual((fewest(line, standing, other), fewest_row(line, standing, other)), (1, [move]))

    def test_a_row_or_a_bar_and_never_both(self):
        for chance, line, standing in self.each():
            for _ in range(3):
                row = chance.sample(order(line, standing), len(trains(standing)))
                other = []
                for (kind, _), many in zip(line, counts(standing)):
                    other.append(tuple(sorted(row[:many]) if kind == "yard" else row[:many]))
                    row = row[many:]
                other = tuple(other)
                found = bar(line, standing, other)
                if found is None:
                    self.assertTrue(shows_row(line, standing, other, row_to(line, standing, other)))
                else:
                    self.assertTrue(shows_bar(line, standing, other, found))
                    for ask in (row_to, number_of):
                        with self.assertRaises(Barred) as caught:
                            ask(line, standing, other)
                        self.assertEqual(caught.exception.block, found[0])
                    self.assertNotEqual(reversed_pairs(line, standing, other), [])
                    self.assertRaises(Crossed, fewest, line, standing, other)

    def test_the_fewest_moves_of_a_row_that_is_not_reversed(self):
        for chance, line, standing in self.each():
            for other in self.others(chance, line, standing):
                if reversed_pairs(line, standing, other):
                    self.assertRaises(Crossed, fewest_row, line, standing, other)
                    continue
                row = fewest_row(line, standing, other)
                self.assertEqual(run(line, standing, row), other)
                self.assertEqual(len(row), fewest(line, standing, other))
                self.assertTrue(shows_fewest(line, standing, other, row))
                self.assertLessEqual(len(row), len(row_to(line, standing, other)))

    def test_a_search_of_small_lines_agrees(self):
        for chance, line, standing in self.each():
            if reachable_many(line, standing) > 300:
                continue
            every = all_from(line, standing)
            self.assertEqual(len(every), reachable_many(line, standing))
            self.assertEqual(every, [reachable_at(line, standing, number) for number in range(len(every))])
            for other in chance.sample(every, min(5, len(every))):
                row = first_row(line, standing, other)
                self.assertEqual(len(row), distance(line, standing, other))
                self.assertTrue(shows_row(line, standing, other, row))
                if not reversed_pairs(line, standing, other):
                    self.assertEqual(len(row), fewest(line, standing, other))
            known = trains(standing)
            for train in known:
                self.assertEqual(places_of(line, standing, train), sorted({place_of(one, train) for one in every}))
            for one, other in itertools.permutations(known[:5], 2):
                self.assertEqual(may_meet(line, standing, one, other),
                                 any(place_of(its, one) == place_of(its, other)
                                     and line[place_of(its, one)][0] == "yard" for its in every))

    def test_lots_blocks_and_sizes(self):
        for chance, line, standing in self.each():
            many = len(trains(standing))
            self.assertEqual(reachable_many(line, standing) * lots_many(line, many), standings_many(line, many))
            self.assertEqual(is_free(line, many), lots_many(line, many) == 1)
            self.assertEqual(is_free(line, many), len(joints(line, many)) == max(many - 1, 0))
            self.assertEqual(is_free(line, many), many <= most_trains(line))
            for place, (_, size) in enumerate(line):
                wider = with_size(line, place, size + 1)
                fewer = lots_many(wider, many) < lots_many(line, many)
                self.assertEqual(place in joining_places(line, many), fewer)
                least = least_size(line, many, place)
                self.assertEqual(is_free(line, many), least is not None and least <= size)

    def test_wishes_and_places(self):
        for chance, line, standing in self.each():
            known = trains(standing)
            for train in chance.sample(known, min(4, len(known))):
                found = [place for place in range(len(line)) if cuts(line, standing, {train: place}) is not None]
                self.assertEqual(found, places_of(line, standing, train))
            for one, other in itertools.combinations(chance.sample(known, min(4, len(known))), 2):
                met = [place for place, (kind, _) in enumerate(line) if kind == "yard"
                       and cuts(line, standing, {one: place, other: place}) is not None]
                self.assertEqual(may_meet(line, standing, one, other), met != [])
                self.assertEqual([ever_ahead(line, standing, one, other), ever_ahead(line, standing, other, one)],
                                 [block_of(line, standing, one) < block_of(line, standing, other),
                                  block_of(line, standing, one) > block_of(line, standing, other)])

    def test_wishes_that_a_reachable_standing_meets(self):
        for chance, line, standing in self.each():
            for other in self.others(chance, line, standing):
                known = chance.sample(trains(standing), chance.randrange(len(trains(standing)) + 1))
                wish = {train: place_of(other, train) for train in known}
                self.assertTrue(shows_cuts(line, standing, wish, cuts(line, standing, wish)))
                found = granted(line, standing, wish)
                self.assertTrue(is_standing(line, found) and leads(line, standing, found))
                self.assertEqual({train: place_of(found, train) for train in known}, wish)

    def test_any_wish_has_cuts_or_is_denied(self):
        for chance, line, standing in self.each():
            known = chance.sample(trains(standing), min(3, len(trains(standing))))
            wish = {train: chance.randrange(len(line)) for train in known}
            found = cuts(line, standing, wish)
            if found is not None:
                self.assertTrue(shows_cuts(line, standing, wish, found))
                self.assertTrue(leads(line, standing, granted(line, standing, wish)))
                continue
            with self.assertRaises(Denied) as caught:
                granted(line, standing, wish)
            self.assertIn(caught.exception.place, range(len(line)))
            if reachable_many(line, standing) <= 300:
                self.assertFalse(any(all(place_of(one, train) == place for train, place in wish.items())
                                     for one in all_from(line, standing)))

    def test_sightings_of_a_standing_that_changes_by_moves(self):
        for chance, line, standing in self.each():
            many = len(trains(standing))
            seen = [(train, place_of(other, train)) for other in self.others(chance, line, standing)
                    for train in trains(standing)]
            self.assertTrue(fits(line, many, seen))
            self.assertIsNone(overfull(line, many, seen))
            for train in trains(standing)[:4]:
                self.assertIn(block_of(line, standing, train), blocks_for(line, many, seen, train))
            wrong = [(train, chance.randrange(len(line))) for train, _ in seen] + [(10 ** 9, 0)]
            self.assertFalse(fits(line, many, wrong))
            self.assertTrue(shows_run(line, many, wrong, overfull(line, many, wrong)))

    def test_texts(self):
        for chance, line, standing in self.each():
            self.assertEqual(line_in(line_text(line)), line)
            for other in self.others(chance, line, standing):
                self.assertEqual(standing_in(line, standing_text(other)), other)
                row = row_to(line, standing, other)
                self.assertEqual(row_in(row_text(row)), row)

    def test_a_yard_that_is_brought_to_a_standing(self):
        for chance, line, standing in self.each():
            yard = Yard(line)
            # All trains come from the left, the last one of the order first.
            for train in reversed(order(line, standing)):
                yard.enter(train)
                yard.run([(train, "right")] * place_of(standing, train))
            self.assertEqual((yard.standing(), yard.groups()), (standing, groups(line, standing)))
            other = self.others(chance, line, standing)[0]
            yard.run(row_to(line, standing, other))
            self.assertEqual(yard.standing(), other)
            yard.undo()
            self.assertEqual((yard.standing(), yard.moves()), (standing, moves(line, standing)))
            self.assertEqual(yard.twin(), yard)

    def test_a_sheet_answers_like_the_functions(self):
        for chance, line, standing in self.each():
            rows, expected = ["line " + line_text(line)], []
            for train in reversed(order(line, standing)):
                place = place_of(standing, train)
                rows += [f"enter {train} left", "run " + row_text([(train, "right")] * place)]
                expected += ["done", "done"]
            other = self.others(chance, line, standing)[0]
            many = len(trains(standing))
            rows += ["show", "many", "free", "groups", "moves", "lead " + standing_text(other),
                     "run " + row_text(row_to(line, standing, other)), "show"]
            expected += [standing_text(standing), str(reachable_many(line, standing)),
                         "yes" if is_free(line, many) else "no", standing_text(groups(line, standing)) or "-",
                         row_text(moves(line, standing)), "yes", "done", standing_text(other)]
            self.assertEqual(answers("\n".join(rows)), expected)

    def test_blocks_never_change(self):
        for chance, line, standing in self.each():
            for other in self.others(chance, line, standing):
                row, its = order(line, standing), order(line, other)
                for first, last in blocks(line, len(row)):
                    self.assertEqual(sorted(row[first:last + 1]), sorted(its[first:last + 1]))


if __name__ == "__main__":
    unittest.main()

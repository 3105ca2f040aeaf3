import itertools
import unittest

from passyards.counting import reachable_many
from passyards.errors import BadLine, Blocked, Full, Inside, Known, NoTrain, OtherTrains
from passyards.leading import bar
from passyards.lines import place_of
from passyards.sheet import answers
from passyards.sizes import is_free
from passyards.texts import line_text, row_text, standing_text
from passyards.yard import Yard
from samples import LINE, START, WIDE
from search import small_lines

HEAD = "line T2 Y2 T1"
# The standing that most examples start from: ((1, 2), (3, 4), ()).
SET_UP = ["enter 2 left", "enter 1 left", "enter 3 right", "move 3 left", "enter 4 right", "move 4 left"]


def after_set_up(*rows):
    """The answers to the rows, given in the standing START."""
    return answers("\n".join([HEAD, *SET_UP, *rows]))[len(SET_UP):]


class Answers(unittest.TestCase):
    def test_example(self):
        text = "line T2 Y2 T1\nenter 4 left\nenter 4 left\nmove 4 right\nshow\nmany\nlead 4 | - | -"
        self.assertEqual(answers(text), ["done", "error Known", "1", "- | 4 | -", "3", "yes"])

    def test_a_line_alone(self):
        self.assertEqual(answers("line Y1"), [])
        self.assertEqual(answers("\n\nline Y1\n"), [])
        self.assertEqual(answers("line " + line_text(WIDE)), [])

    def test_set_up(self):
        self.assertEqual(answers("\n".join([HEAD] + SET_UP)), ["done", "done", "done", "1", "done", "1"])
        self.assertEqual(after_set_up("show"), ["1 2 | 3 4 | -"])

    def test_empty_lines_are_skipped(self):
        self.assertEqual(answers("\n\n" + HEAD + "\n\n\nenter 0 right\n\nshow\n\n"), ["done", "- | - | 0"])

    def test_enter(self):
        self.assertEqual(answers(HEAD + "\nenter 5 left\nenter 6 left\nenter 7 left\nenter 5 right\nenter 8 right\n"
                                 "enter 9 right\nenter 9999999999 right\nshow"),
                         ["done", "done", "error Full", "error Known", "done", "error Full", "error Full",
                          "6 5 | - | 8"])

    def test_leave(self):
        self.assertEqual(after_set_up("leave 2", "leave 9", "leave 1", "move 4 right", "leave 4", "show"),
                         ["error Inside", "error NoTrain", "left", "2", "right", "2 | 3 | -"])
        self.assertEqual(answers("line Y2\nenter 0 right\nleave 0\nleave 0"), ["done", "left", "error NoTrain"])

    def test_move(self):
        self.assertEqual(after_set_up("move 1 left", "move 2 right", "move 0 left", "move 4 right", "move 2 right"),
                         ["error Blocked", "error Blocked", "error NoTrain", "2", "1"])

    def test_run(self):
        self.assertEqual(after_set_up("run 4> 2> 3<", "show", "run -", "run 2> 2<", "run 9>", "run 2> 2> 9<", "show",
                                      "undo", "show", "undo", "show"),
                         ["done", "1 3 | 2 | 4", "done", "error Blocked", "error NoTrain", "error Blocked",
                          "1 3 | 2 | 4", "yes", "1 3 | 2 | 4", "yes", "1 2 | 3 4 | -"])

    def test_undo(self):
        self.assertEqual(answers(HEAD + "\nundo\nenter 1 left\nenter 1 left\nundo\nundo\nshow"),
                         ["no", "done", "error Known", "yes", "no", "- | - | -"])

    def test_show(self):
        self.assertEqual(answers("line T1\nshow\nenter 0 left\nshow"), ["-", "done", "0"])

    def test_moves(self):
        self.assertEqual(after_set_up("moves", "move 4 right", "moves"), ["3> 4>", "2", "2> 4<"])
        self.assertEqual(answers(HEAD + "\nmoves"), ["-"])
        self.assertEqual(answers("line Y2\nenter 5 left\nmoves"), ["done", "-"])

    def test_groups(self):
        self.assertEqual(after_set_up("groups"), ["1 | 2 3 4"])
        self.assertEqual(answers(HEAD + "\ngroups"), ["-"])
        self.assertEqual(answers("line T3\nenter 0 left\nenter 7 left\nenter 3 right\ngroups"),
                         ["done", "done", "done", "7 | 0 | 3"])

    def test_many(self):
        self.assertEqual(after_set_up("many"), ["12"])
        self.assertEqual(answers(HEAD + "\nmany"), ["1"])
        wide = "\n".join(["line " + " ".join(["Y30"] * 16)] + [f"enter {train} left" for train in range(30)] + ["many"])
        self.assertEqual(answers(wide), ["done"] * 30 + [str(16 ** 30)])

    def test_lead(self):
        self.assertEqual(after_set_up("lead 1 2 | 3 4 | -", "lead 1 3 | 4 | 2", "lead 2 1 | 3 4 | -"),
                         ["yes", "yes", "no 0"])
        self.assertEqual(answers("line T2 T2\nenter 3 right\nenter 2 left\nlead 3 | 2\nlead 2 3 | -\nlead - | 3 2"),
                         ["done", "done", "no 0", "yes", "no 0"])
        self.assertEqual(answers("line T3\nenter 3 left\nenter 2 left\nenter 1 left\nlead 1 3 2")[3:], ["no 1"])
        self.assertEqual(answers(HEAD + "\nlead - | - | -"), ["yes"])

    def test_lead_of_other_trains(self):
        self.assertEqual(after_set_up("lead - | - | -", "lead 1 2 | 3 5 | -", "lead 1 2 | 3 | -", "lead 2 1 | 3 4 | 5"),
                         ["error OtherTrains"] * 4)

    def test_free(self):
        self.assertEqual(answers(HEAD + "\nfree\nenter 1 left\nfree"), ["yes", "done", "yes"])
        self.assertEqual(after_set_up("free", "leave 1", "free"), ["no", "left", "yes"])

    def test_ten_digits(self):
        self.assertEqual(answers("line T9999999999\nenter 9999999999 left\nshow\nfree\nmany\nmoves"),
                         ["done", "9999999999", "yes", "1", "-"])

    def test_by_name_and_new_lists(self):
        found = answers(text=HEAD + "\nundo")
        self.assertEqual((type(found), found), (list, ["no"]))
        found.clear()
        self.assertEqual(answers(HEAD + "\nundo"), ["no"])

    def test_sixty_lines(self):
        text = "\n".join([HEAD] + ["enter 5 left", "move 5 right", "leave 5", "undo", "undo", "undo"] * 10)
        self.assertEqual(answers(text), ["done", "1", "error Inside", "yes", "yes", "no"] * 10)


class BadLines(unittest.TestCase):
    def check_bad(self, text, number):
        with self.subTest(text=text), self.assertRaises(BadLine) as caught:
            answers(text)
        self.assertEqual(caught.exception.number, number)

    def test_examples(self):
        self.check_bad("line T2\nmove 4 up", 1)
        self.check_bad("\n", 2)

    def test_empty_lines_alone(self):
        for many in range(70):
            self.check_bad("\n" * many, many + 1)

    def test_the_first_line(self):
        for row in ("T2 Y2", "line", "line ", "line  T2", " line T2", "line T2 ", "Line T2", "line T0", "line -",
                    "line T2  Y2", "line T2\tY2", "line\tT2", "show", "enter 4 left", "undo", "line T2\r", "lines T2",
                    " ", "line Y02"):
            self.check_bad(row, 0)
            self.check_bad("\n\n" + row + "\nshow\nline T2", 2)

    def test_the_other_lines(self):
        bad = ["line T2 Y2 T1", "enter", "enter 4", "enter 4 up", "enter left", "enter 4  left", "enter  4 left",
               "enter 4 left ", " enter 4 left", "enter 04 left", "enter -4 left", "enter 12345678901 left",
               "enter 4 5 left", "enter 4\tleft", "Enter 4 left", "enter 4 Left", "enter 4left", "enter 4 left right",
               "leave", "leave ", "leave 4 left", "leave 04", "leave x", "leave 4 ", "leave +4", "move", "move 4",
               "move 4 >", "move 4 up", "move 4> ", "move left", "run", "run ", "run 4", "run 4 >", "run 4>  2<",
               "run 4> ", "run  4>", "run --", "run - ", "undo ", "undo 1", " undo", "show ", "show 1", "moves ",
               "moves 4", "groups ", "many ", "many 4", "free ", "free 4", "lead", "lead ", "lead -", "lead - | -",
               "lead 1 2 3 | - | -", "lead - | 2 1 | -", "lead 1 | 1 | -", "lead - | - | - | -", "lead -  | - | -",
               "lead - | - | - ", "lead x", "leads - | - | -", "show - | - | -", " - | - | -",
               "lead  - | - | -", "log", "twin", "len", "resize 0 3", "as_of 0", "line",
               "operations", "T2", "-", " ", "yes", "done", "show\r", "\tshow", "UNDO", "enter 4 left\r",
               "move 4 \u2190", "enter \u00b2 left"]
        for row in bad:
            self.check_bad(HEAD + "\n" + row, 1)
            self.check_bad(HEAD + "\nenter 4 left\n\n" + row + "\nshow\nalso bad", 3)

    def test_the_first_one_counts(self):
        self.check_bad(HEAD + "\nshow\nbad\n\nworse", 2)
        self.check_bad("bad\nline T0\nworse", 0)
        self.check_bad(HEAD + "\nenter 4 left\nenter 4 left\nleave 77\nlead 1 | - ", 4)

    def test_a_standing_is_one_of_this_line(self):
        self.check_bad("line T1 Y1\nlead 1 | 2\nlead 1 2 | -", 2)
        self.assertEqual(answers("line T1 Y1\nlead 1 | 2"), ["error OtherTrains"])


class LikeAYard(unittest.TestCase):
    """The answers are those that a Yard and the questions' functions give."""

    ROWS = ["enter 1 left", "enter 2 right", "enter 1 right", "enter 3 left", "moves", "groups", "many", "free", "show",
            "move 1 right", "move 2 left", "move 3 right", "lead ", "run 1> 2<", "run 2> 1<", "run 3< 3>", "leave 1",
            "undo", "run -", "leave 3", "many", "undo", "show", "move 2 right", "leave 2", "groups", "free", "moves"]

    def test_on_small_lines(self):
        for line in small_lines():
            goal = [()] * len(line)
            goal[0] = (1,)
            rows = [row + standing_text(goal) if row == "lead " else row for row in self.ROWS]
            for order in (rows, rows[::-1], rows[::2] + rows[1::2]):
                yard = Yard(line)
                expected = [self.by_hand(yard, row, tuple(goal)) for row in order]
                self.assertEqual(answers("\n".join(["line " + line_text(line), *order])), expected)

    def by_hand(self, yard, row, goal):
        try:
            return self.answer(yard, row.split(" "), goal)
        except (Known, Full, NoTrain, Inside, Blocked, OtherTrains) as error:
            return "error " + type(error).__name__

    def answer(self, yard, words, goal):
        name, told = words[0], words[1:]
        if name == "enter":
            return "done" if yard.enter(int(told[0]), side=told[1]) is None else None
        if name == "leave":
            return yard.leave(int(told[0]))
        if name == "move":
            found = yard.move(int(told[0]), told[1])
            self.assertEqual(found, place_of(yard.standing(), int(told[0])))
            return str(found)
        if name == "run":
            sides = {"<": "left", ">": "right"}
            row = [(int(word[:-1]), sides[word[-1]]) for word in told if word != "-"]
            return "done" if yard.run(row) is None else None
        if name == "undo":
            return "yes" if yard.undo() else "no"
        return self.question(yard, name, goal)

    def question(self, yard, name, goal):
        line, standing = yard.line(), yard.standing()
        if name == "lead":
            found = bar(line, standing, goal)
            return "yes" if found is None else f"no {found[0]}"
        return {"show": standing_text(standing), "moves": row_text(yard.moves()),
                "groups": standing_text(yard.groups()) or "-", "many": str(reachable_many(line, standing)),
                "free": "yes" if is_free(line, len(yard)) else "no"}[name]


class EveryWord(unittest.TestCase):
    def test_all_short_lines_of_these_words(self):
        """Exactly the lines that are written as point [18] says are read, whatever words are put together."""
        words = ["enter", "leave", "move", "run", "undo", "show", "moves", "groups", "many", "lead", "free", "line",
                 "0", "7", "left", "right", "-", "7>", "0<", "|", "T1", "", "01"]
        right = {"undo", "show", "moves", "groups", "many", "free", "run -", "lead - | -", "lead 7 | -", "lead 0 | -",
                 "lead - | 7", "lead - | 0", "lead 0 | 7", "lead 7 | 0"}
        right |= {f"{name} {train} {side}" for name in ("enter", "move") for train in (0, 7)
                  for side in ("left", "right")}
        right |= {f"leave {train}" for train in (0, 7)}
        right |= {" ".join(["run", *row]) for many in (1, 2, 3) for row in itertools.product(["7>", "0<"], repeat=many)}
        for many in (1, 2, 3):
            for parts in itertools.product(words, repeat=many):
                self.check(" ".join(parts), right)
        for row in right | {"lead 7 | 7", "lead - | 01", "lead - | - |", "lead  | -"}:
            self.check(row, right)

    def check(self, row, right):
        try:
            many = len(answers("line T1 T1\n" + row))
        except BadLine as error:
            self.assertEqual(error.number, 1)
            self.assertNotIn(row, right)
        else:
            self.assertTrue(row in right or not row, row)
            self.assertEqual(many, 1 if row else 0)


if __name__ == "__main__":
    unittest.main()

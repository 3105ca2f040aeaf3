import itertools
import unittest

from passyards.errors import BadText
from passyards.lines import capacity, is_line, is_standing
from passyards.texts import line_in, line_text, number_in, row_in, row_text, standing_in, standing_text
from samples import LINE, START, WIDE, WIDE_START, as_lists
from search import every_standing, small_lines

EMPTY = ((), (), ())
# Digits that are not ASCII: a superscript, Arabic-Indic, full width, and a letter that means a number.
ODD_DIGITS = ["\u00b2", "\u0663", "\uff13", "\u2163"]
BAD_NUMBERS = ["", " ", "-1", "+1", "-0", "01", "00", "007", "1.0", "1_0", "0x1", "1e3", "a", "1a", "a1", "1x",
               "12345678901", "00000000001", "1" * 5000, "1\n", "\t1", "1\t", "1,2", "--", "None", "\u22121",
               "1\u00a0"] + ODD_DIGITS


class Bad(unittest.TestCase):
    """Texts that no value has."""

    def check_bad(self, read, texts):
        for text in texts:
            with self.subTest(text=text), self.assertRaises(BadText) as caught:
                read(text)
            self.assertEqual(caught.exception.text, text)


class Writing(unittest.TestCase):
    def test_examples(self):
        self.assertEqual((line_text(LINE), standing_text(START), row_text([(4, "right"), (2, "left")])),
                         ("T2 Y2 T1", "1 2 | 3 4 | -", "4> 2<"))

    def test_lines(self):
        self.assertEqual(line_text((("yard", 1),)), "Y1")
        self.assertEqual(line_text((("track", 30), ("yard", 30))), "T30 Y30")
        self.assertEqual(line_text(WIDE), "T30 Y30 T30 " * 5 + "T30")

    def test_standings(self):
        self.assertEqual(standing_text(EMPTY), "- | - | -")
        self.assertEqual(standing_text(((),)), "-")
        self.assertEqual(standing_text(((0,),)), "0")
        self.assertEqual(standing_text(((2, 1), (10 ** 9,))), "2 1 | 1000000000")

    def test_rows(self):
        self.assertEqual(row_text([]), "-")
        self.assertEqual(row_text(()), "-")
        self.assertEqual(row_text([(0, "left")]), "0<")
        self.assertEqual(row_text([(10 ** 9, "right"), (7, "left"), (7, "right")]), "1000000000> 7< 7>")

    def test_by_name_and_with_lists(self):
        self.assertEqual(line_text(line=as_lists(LINE)), "T2 Y2 T1")
        self.assertEqual(standing_text(standing=as_lists(START)), "1 2 | 3 4 | -")
        self.assertEqual(row_text(row=([4, "right"], [2, "left"])), "4> 2<")


class Numbers(Bad):
    def test_numbers(self):
        for number in (0, 1, 9, 10, 99, 10 ** 9, 9999999999):
            self.assertEqual(number_in(str(number)), number)

    def test_bad_texts(self):
        self.check_bad(number_in, BAD_NUMBERS)


class LineIn(Bad):
    def test_example(self):
        self.assertEqual(line_in("T2 Y2 T1"), LINE)
        self.check_bad(line_in, ["T2 Y02"])

    def test_lines(self):
        self.assertEqual(line_in("Y1"), (("yard", 1),))
        self.assertEqual(line_in("T9999999999"), (("track", 9999999999),))
        self.assertEqual(line_in(text="T30 Y30"), (("track", 30), ("yard", 30)))
        self.assertEqual(line_in(line_text(WIDE)), WIDE)
        self.assertEqual(line_in(" ".join(["Y1"] * 40)), (("yard", 1),) * 40)

    def test_bad_texts(self):
        self.check_bad(line_in, ["", " ", "T", "Y", "2", "T0", "Y0", "T2 Y0", "T2 T0 Y1", "T2  Y2", " T2", "T2 ",
                                 "T2 Y2 ", "T2\tY2", "T2\nY2", "T2\n", "t2", "y2", "Z2", "T2,Y2", "T2Y2", "T 2", "2T",
                                 "TT2", "track 2", "-", "T2 -", "T2 | Y2", "T2 Y2 T", "T2 Y2 2", "T2\r", "\u03a42"])
        self.check_bad(line_in, ["T" + number for number in BAD_NUMBERS])
        self.check_bad(line_in, ["T1 Y" + number + " T1" for number in BAD_NUMBERS])


class StandingIn(Bad):
    def read(self, text):
        return standing_in(LINE, text)

    def test_examples(self):
        self.assertEqual(standing_in(LINE, "1 2 | 3 4 | -"), START)
        self.check_bad(self.read, ["1 2 | 3 4"])

    def test_standings(self):
        self.assertEqual(self.read("- | - | -"), EMPTY)
        self.assertEqual(self.read("2 1 | 0 5 | 9999999999"), ((2, 1), (0, 5), (9999999999,)))
        self.assertEqual(standing_in((("track", 1),), "-"), ((),))
        self.assertEqual(standing_in((("yard", 3),), "0 9 10"), ((0, 9, 10),))
        self.assertEqual(standing_in(WIDE, standing_text(WIDE_START)), WIDE_START)

    def test_not_of_this_line(self):
        self.check_bad(self.read, ["-", "1", "1 2", "1 2 | 3 4", "1 2 | 3 4 | - | -", "1 2 3 | 4 | -", "- | 1 2 3 | -",
                                   "- | - | 1 2", "1 2 | 3 4 | 5 6", "- | 4 3 | -", "1 1 | - | -", "1 | 1 | -",
                                   "1 2 | 3 4 | 1", "- | 3 3 | -"])

    def test_badly_written(self):
        self.check_bad(self.read, ["", " ", "|", " | ", " |  | ", " | | ", "- | - | ", " | - | -", "- |  | -", "-|-|-",
                                   "- | -| -", "- |- | -", "-  | - | -", "- |  - | -", " - | - | -", "- | - | - ",
                                   "- | - | -\n", "- | -\n| -", "-\t| - | -", "1  2 | - | -", " 1 2 | - | -",
                                   "1 2  | - | -", "1 2 | - | - 3", "1 - | - | -", "- - | - | -", "-- | - | -",
                                   "1, 2 | - | -", "1 2 || 3 4 | -", "1 2 / 3 4 / -", "(1, 2) | - | -", "1\t2 | - | -",
                                   "- | | - | -", "- | - | - |", "| - | - | -"])
        self.check_bad(self.read, ["- | " + number + " | -" for number in BAD_NUMBERS])
        self.check_bad(self.read, ["7 " + number + " | 3 | -" for number in BAD_NUMBERS])

    def test_by_name_and_with_lists(self):
        found = standing_in(text="1 2 | 3 4 | -", line=as_lists(LINE))
        self.assertEqual(repr(found), repr(START))


class RowIn(Bad):
    def test_examples(self):
        self.assertEqual(row_in("4> 2<"), [(4, "right"), (2, "left")])
        self.check_bad(row_in, ["4 >"])

    def test_rows(self):
        self.assertEqual(row_in("-"), [])
        self.assertEqual(row_in("0<"), [(0, "left")])
        self.assertEqual(row_in(text="9999999999> 7< 7<"), [(9999999999, "right"), (7, "left"), (7, "left")])

    def test_many_moves(self):
        row = [(29, "right"), (28, "left")] * 10000
        self.assertEqual(row_in(row_text(row)), row)

    def test_bad_texts(self):
        self.check_bad(row_in, ["", " ", "4", "<", ">", "<4", "4>2<", "4>  2<", " 4>", "4> ", "4>\n", "4>\t2<", "4> -",
                                "- 4>", "--", "- ", " -", "-\n", "4>>", "4<>", "4> <", "4-> 2<", "4=", "4> 2", "4> 2|",
                                "4right", "4> | 2<", "4>, 2<", "\u00b2>", "4\u203a"])
        self.check_bad(row_in, [number + ">" for number in BAD_NUMBERS])
        self.check_bad(row_in, ["4> " + number + "<" for number in BAD_NUMBERS])

    def test_belongs_to_the_caller(self):
        for text, row in (("4>", [(4, "right")]), ("-", [])):
            found = row_in(text)
            found.append((1, "left"))
            self.assertEqual(row_in(text), row)


class ThereAndBack(Bad):
    def test_values_and_their_texts(self):
        for line in small_lines():
            self.assertEqual(line_in(line_text(line)), line)
            for many in range(min(capacity(line), 3) + 1):
                for standing in every_standing(line, many):
                    self.assertEqual(standing_in(line, standing_text(standing)), standing)

    def test_every_short_text_of_a_line(self):
        self.check_every("TY012 ", 5, line_in, line_text, is_line)

    def test_every_short_text_of_a_standing(self):
        line = (("track", 1), ("yard", 2))
        self.check_every("012 |-", 7, lambda text: standing_in(line, text), standing_text,
                         lambda found: is_standing(line, found))

    def test_every_short_text_of_a_row(self):
        self.check_every("01<> -", 5, row_in, row_text, lambda found: type(found) is list)

    def check_every(self, marks, longest, read, write, is_right):
        """A text is read exactly if it is the text of a value: every value that is read has that very text."""
        many = 0
        for length in range(longest + 1):
            for parts in itertools.product(marks, repeat=length):
                text = "".join(parts)
                try:
                    found = read(text)
                except BadText as error:
                    self.assertEqual(error.text, text)
                else:
                    many += 1
                    self.assertTrue(is_right(found))
                    self.assertEqual(write(found), text)
        self.assertGreater(many, 10)


if __name__ == "__main__":
    unittest.main()

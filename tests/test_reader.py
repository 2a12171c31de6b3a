"""Point 6, the half that speaks of reading, and the bounds of point 4 as far as a text can break them."""

import itertools
import unittest

from copykin.errors import KinError, NoText
from copykin.reader import read, read_row
from copykin.writer import written
from tests.things import FOUR, letters, many, others

# Each is no row, and has no line end in it.
NO_ROWS = [
    "", " ", "  ", "a", "a ", " a", "0", "-", " 0", " -", "a0", "a-", "0 a", "- a", "a a", "0 0", "- -",
    " a 0", "a 0 ", "a  0", " a 0 ", "a 0  ", "  a 0", "a\t0", "\ta 0", "a 0\t", "a \t0", "a\t 0", "a 0\r", "a\r0",
    "a 0 1", "a 0 0", "a b 0", "a 0 b", "a 0 -", "a - 0", "a - ", "a  -", " a -", "a - -",
    "A 0", "aB 0", "Ab 0", "abcdefgH 0", "a1 0", "1a 0", "a_b 0", "a-b 0", "a. 0", "a, 0",
    "a 2", "a 02", "a 20", "a 0120", "a 9", "a x", "a O", "a 0x", "a l", "a 0,1", "a 0.1", "a +1", "a 0_1", "a 1e1",
    "a -0", "a 0-", "a --", "a -1", "a 01-", "a 0-1", "a ---", "a _",
    "a " + "0" * 61, "a " + "1" * 61, "a " + "01" * 40, "a " + "0" * 60 + "2", "a " + "0" * 60 + "-",
    "abcdefghi 0", "z" * 9 + " -", "z" * 100 + " 0", "abcdefgh", "abcdefghi",
    "a 0\x00", "\x00", "a 0\x0b", "a\x0b0", "a 0\x0c", "a 0\x1c", "a 0\x1f",
]
# Each is no row for the line end in it.
WITH_LINE_ENDS = ["\n", "a 0\n", "\na 0", "a\n0", "a \n0", "a -\n", "a 0\nb 0", "a\n 0", "a 0\r\n", "a\n"]


def row_of_refusal(text):
    try:
        read(text)
    except NoText as error:
        return error.row
    return None


def joined(rows):
    return "\n".join(rows)


class ReadRow(unittest.TestCase):
    def test_a_name_and_figures(self):
        self.assertEqual(read_row("a 0"), ("a", (0,)))
        self.assertEqual(read_row("a 1"), ("a", (1,)))
        self.assertEqual(read_row("bern 0110"), ("bern", (0, 1, 1, 0)))
        self.assertEqual(read_row("zz 100"), ("zz", (1, 0, 0)))

    def test_no_places(self):
        self.assertEqual(read_row("a -"), ("a", ()))
        self.assertEqual(read_row("abcdefgh -"), ("abcdefgh", ()))

    def test_names_of_one_to_eight_letters(self):
        for count in range(1, 9):
            for letter in "abcdefghijklmnopqrstuvwxyz":
                self.assertEqual(read_row(letter * count + " 01"), (letter * count, (0, 1)))
        for count in [9, 10, 60]:
            self.assertIsNone(read_row("z" * count + " 01"))

    def test_one_to_sixty_places(self):
        for count in range(1, 61):
            for figures in ["0" * count, "1" * count, ("011" * 20)[:count]]:
                self.assertEqual(read_row("abc " + figures), ("abc", tuple(int(figure) for figure in figures)))
        for count in range(61, 130):
            self.assertIsNone(read_row("abc " + "0" * count))

    def test_the_kinds_of_what_is_told(self):
        for row in ["a 01", "a -"]:
            told = read_row(row)
            self.assertIs(type(told), tuple)
            self.assertIs(type(told[0]), str)
            self.assertIs(type(told[1]), tuple)
            for reading in told[1]:
                self.assertIs(type(reading), int)

    def test_none_of_each_row_that_is_none(self):
        for row in NO_ROWS + WITH_LINE_ENDS:
            self.assertIsNone(read_row(row), repr(row))

    def test_every_sign_more_is_too_much(self):
        for code in range(128):
            sign = chr(code)
            if sign not in "01":
                self.assertIsNone(read_row("a 01" + sign), repr(sign))
                self.assertIsNone(read_row("a 0" + sign + "1"), repr(sign))
                self.assertIsNone(read_row("a -" + sign), repr(sign))
            if not sign.isalpha() or sign.isupper():
                self.assertIsNone(read_row(sign + "a 01"), repr(sign))
                self.assertIsNone(read_row("a" + sign + " 01"), repr(sign))
            if sign != " ":
                self.assertIsNone(read_row("a" + sign + "01"), repr(sign))

    def test_none_of_what_is_no_text(self):
        for thing in others(str) + [b"a 0", ["a 0"], ("a", (0,)), ["a", "0"], {"a": "0"}, ("a", "0")]:
            self.assertIsNone(read_row(thing))

    def test_a_new_tuple_each_time(self):
        self.assertIsNot(read_row("a 01"), read_row("a 01"))
        self.assertIsNot(read_row("a 01")[1], read_row("a 01")[1])

    def test_by_its_name(self):
        self.assertEqual(read_row(row="a 10"), ("a", (1, 0)))


class Read(unittest.TestCase):
    def test_the_text_without_signs(self):
        self.assertEqual(read(""), [])
        self.assertIs(type(read("")), list)

    def test_one_row(self):
        self.assertEqual(read("a 01"), [("a", (0, 1))])
        self.assertEqual(read("abcdefgh 1"), [("abcdefgh", (1,))])
        self.assertEqual(read("a -"), [("a", ())])

    def test_rows_in_any_order(self):
        rows = ["a 1001", "abcdefgh 1101", "bb 1100", "d 1001"]
        copies = [("a", (1, 0, 0, 1)), ("abcdefgh", (1, 1, 0, 1)), ("bb", (1, 1, 0, 0)), ("d", (1, 0, 0, 1))]
        for order in itertools.permutations(range(4)):
            told = read(joined(rows[number] for number in order))
            self.assertEqual(told, [copies[number] for number in order])

    def test_many_rows_without_places(self):
        self.assertEqual(read("c -\na -\nb -"), [("c", ()), ("a", ()), ("b", ())])

    def test_written_and_read_again(self):
        for copies in [0, 1, 2, 3, 39, 40]:
            for places in [0, 1, 2, 7, 59, 60]:
                table = many(copies, places)
                text = written(table)
                self.assertEqual(read(text), sorted(table))
                self.assertEqual(written(read(text)), text)

    def test_read_and_written_again_the_rows_are_sorted(self):
        for rows in [["b 01", "a 11"], ["d 0", "a 1", "c 0", "b 1"], ["ab -", "b -", "a -", "aa -"], ["x 000111"]]:
            self.assertEqual(written(read(joined(rows))), joined(sorted(rows)))

    def test_the_largest_texts(self):
        for places in [0, 60]:
            names = [letters(number) + "abcdef" for number in range(40)]
            figures = "10" * 30 if places else "-"
            told = read(joined(name + " " + figures for name in reversed(names)))
            self.assertEqual(told, [(name, (1, 0) * (places // 2)) for name in reversed(names)])

    def test_what_is_told_is_the_askers_own(self):
        for text in ["", "a 01", "a 01\nb 11"]:
            first = read(text)
            wanted = list(first)
            first.clear()
            self.assertEqual(read(text), wanted)
            again = read(text)
            again.append("x")
            self.assertEqual(read(text), wanted)
        for one, other in zip(read("a 01\nb 11"), read("a 01\nb 11")):
            self.assertIsNot(one, other)
            self.assertIsNot(one[1], other[1])

    def test_a_refusal_changes_nothing_of_the_next_reading(self):
        self.assertEqual(row_of_refusal("a 01\nb 11\nb 00"), 2)
        self.assertEqual(read("b 00"), [("b", (0, 0))])
        self.assertEqual(read("a 1\nb 0"), [("a", (1,)), ("b", (0,))])

    def test_by_its_name(self):
        self.assertEqual(read(text="a 0"), [("a", (0,))])


class ReadRefusals(unittest.TestCase):
    def test_line_ends_too_many(self):
        self.assertEqual(row_of_refusal("\n"), 0)
        self.assertEqual(row_of_refusal("\n\n"), 0)
        self.assertEqual(row_of_refusal("a 0\n"), 1)
        self.assertEqual(row_of_refusal("a 0\nb 1\n"), 2)
        self.assertEqual(row_of_refusal("a 0\nb 1\n\n"), 2)
        self.assertEqual(row_of_refusal("\na 0"), 0)
        self.assertEqual(row_of_refusal("\n\na 0"), 0)
        self.assertEqual(row_of_refusal("a 0\n\nb 1"), 1)
        self.assertEqual(row_of_refusal("a 0\nb 1\n\nc 1"), 2)
        self.assertEqual(row_of_refusal("a -\n"), 1)
        self.assertEqual(row_of_refusal(written(many(40, 60)) + "\n"), 40)

    def test_other_line_ends_part_no_rows(self):
        for end in ["\r", "\r\n", "\x0b", "\x0c", "\x1c", "\x1d", "\x1e", "\n\r"]:
            self.assertIsNotNone(row_of_refusal("a 0" + end + "b 1"), repr(end))
            self.assertIsNotNone(row_of_refusal("a 0" + end), repr(end))
        self.assertEqual(row_of_refusal("a 0\r\nb 1"), 0)
        self.assertEqual(row_of_refusal("a 0\x0bb 1"), 0)
        self.assertEqual(row_of_refusal("a 0\n\rb 1"), 1)

    def test_a_wrong_row_alone(self):
        for row in NO_ROWS:
            if row != "":
                self.assertEqual(row_of_refusal(row), 0, repr(row))

    def test_a_wrong_row_at_any_place(self):
        for row in NO_ROWS:
            for place in range(4):
                rows = ["x 0", "z 1", "y 0"]
                rows.insert(place, row)
                self.assertEqual(row_of_refusal(joined(rows)), place, repr(row))

    def test_the_first_of_two_wrong_rows(self):
        for row in NO_ROWS:
            self.assertEqual(row_of_refusal(joined(["x 0", row, "y 0", "Y 0"])), 1, repr(row))
            self.assertEqual(row_of_refusal(joined(["x 0", "X 0", "y 0", row])), 1, repr(row))

    def test_a_name_that_is_there_already(self):
        self.assertEqual(row_of_refusal("a 0\na 0"), 1)
        self.assertEqual(row_of_refusal("a 0\na 1"), 1)
        self.assertEqual(row_of_refusal("a -\na -"), 1)
        self.assertEqual(row_of_refusal("a 0\nb 0\nc 0\nb 1\na 1"), 3)
        self.assertEqual(row_of_refusal("b 0\na 0\nb 0\na 0"), 2)
        for place in range(40):
            rows = written(many(39, 2)).split("\n")
            rows.insert(place, rows[0] if place else rows[-1])
            self.assertEqual(row_of_refusal(joined(rows)), place if place else 39)

    def test_another_count_of_places_than_the_rows_ahead(self):
        self.assertEqual(row_of_refusal("a 0\nb 00"), 1)
        self.assertEqual(row_of_refusal("a 00\nb 0"), 1)
        self.assertEqual(row_of_refusal("a 0\nb 00\nc 00\nd 00"), 1)
        self.assertEqual(row_of_refusal("a -\nb 0"), 1)
        self.assertEqual(row_of_refusal("a 0\nb -"), 1)
        self.assertEqual(row_of_refusal("a 01\nb 01\nc 011\nd 0"), 2)
        self.assertEqual(row_of_refusal("a " + "0" * 60 + "\nb " + "0" * 59), 1)

    def test_a_forty_first_row(self):
        for places in [0, 1, 60]:
            rows = written(many(40, places)).split("\n")
            figures = rows[0].split(" ")[1]
            self.assertIsNone(row_of_refusal(joined(rows)))
            self.assertEqual(row_of_refusal(joined(rows + ["zz " + figures])), 40)
            self.assertEqual(row_of_refusal(joined(rows + ["zz " + figures, "zy " + figures])), 40)
            self.assertEqual(row_of_refusal(joined(rows + ["zz " + figures] * 30)), 40)
            self.assertEqual(row_of_refusal(joined(["zz " + figures] + rows)), 40)

    def test_where_several_come_together_the_first_row_of_them(self):
        rows = written(many(40, 2)).split("\n")
        for wrong in [rows[0], "zz 0", "zz -", "zz 02", "", "Z 01"]:
            for place in [1, 7, 39]:
                self.assertEqual(row_of_refusal(joined(rows[:place] + [wrong] + rows[place:])), place)
            self.assertEqual(row_of_refusal(joined(rows + [wrong])), 40)
        self.assertEqual(row_of_refusal("a 0\nb 00\nb 0"), 1)
        self.assertEqual(row_of_refusal("a 0\na 0\nb 00"), 1)
        self.assertEqual(row_of_refusal("a 0\na 00\nb 0"), 1)
        self.assertEqual(row_of_refusal("a 0\nB 0\na 0"), 1)
        self.assertEqual(row_of_refusal("a 0\na 0\nB 0"), 1)
        self.assertEqual(row_of_refusal("a 0\nb 0\nc 00\na 0\n"), 2)

    def test_long_texts(self):
        for text in ["a" * 20000, "\n" * 20000, " " * 20000, "a " + "0" * 19998]:
            self.assertEqual(row_of_refusal(text), 0)
        self.assertEqual(row_of_refusal("a 0\n" * 5000), 1)

    def test_what_is_no_text(self):
        for thing in others(str) + [b"a 0", ["a 0"], [("a", (0,))], ("a 0", "b 0"), []]:
            with self.assertRaises(NoText) as caught:
                read(thing)
            self.assertEqual(caught.exception.row, 0)
            self.assertIs(type(caught.exception.row), int)

    def test_the_refusal_is_a_kin_error_with_a_row(self):
        with self.assertRaises(KinError) as caught:
            read("a 0\nb 1\nc 2")
        self.assertIs(type(caught.exception), NoText)
        self.assertIs(type(caught.exception.row), int)
        self.assertEqual(caught.exception.row, 2)

    def test_the_rows_up_to_each_refused_row_write_a_table(self):
        for text in ["a 0\nb 1\nc 0\nb 1", "a 01\nb 01\nc 1", "a -\nb -\n", "a 0\n\nb 0"]:
            rows = text.split("\n")
            row = row_of_refusal(text)
            self.assertEqual(len(read(joined(rows[:row]))), row)
            self.assertEqual(row_of_refusal(joined(rows[:row + 1]) + ("" if rows[row] else "\n")), row)


class Four(unittest.TestCase):
    def test_the_table_of_four(self):
        self.assertEqual(read("d 1001\nbb 1100\na 1001\nabcdefgh 1101"), FOUR)


if __name__ == "__main__":
    unittest.main()

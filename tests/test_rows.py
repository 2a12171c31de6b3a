"""Point 16: the rows of a desk."""

import random
import unittest

from copykin.errors import KinError, NoRow
from copykin.rows import row_of
from tests.things import letters, others

ASKING = ["table", "clash", "tree", "first", "stands", "aside", "mixers"]
WORDS = ASKING + ["copy", "drop", "elder", "free", "mixed"]

# A row of each word, and what it says.
ROWS = [
    ("copy rome 011", ("copy", ["rome", (0, 1, 1)])),
    ("copy a 0", ("copy", ["a", (0,)])),
    ("copy a -", ("copy", ["a", ()])),
    ("copy abcdefgh 10", ("copy", ["abcdefgh", (1, 0)])),
    ("copy copy 1", ("copy", ["copy", (1,)])),
    ("drop rome", ("drop", ["rome"])),
    ("drop drop", ("drop", ["drop"])),
    ("elder 0 0", ("elder", [0, 0])),
    ("elder 7 1", ("elder", [7, 1])),
    ("elder 59 0", ("elder", [59, 0])),
    ("elder 99 1", ("elder", [99, 1])),
    ("free 0", ("free", [0])),
    ("free 10", ("free", [10])),
    ("mixed abcdefgh", ("mixed", ["abcdefgh"])),
    ("mixed table", ("mixed", ["table"])),
] + [(word, (word, [])) for word in ASKING]

NO_PLACE_WORDS = [
    "00", "01", "07", "09", "000", "010", "100", "123", "999", "1000", "-1", "-0", "-", "+1", "1.", "1.0", ".1", "a",
    "0a", "a0", "1a", "1e1", "0x1", "1_1", "1,1", "\t1", "1\t", "1\n", "\n1", "one", "0b1", "1-", "()", "None", "True",
    "9" * 5000,
]
NO_NAME_WORDS = ["A", "Rome", "romE", "abcdefghi", "a" * 5000, "a1", "1", "0", "-", "a-b", "a_b", "a\n", "\na", "a\t",
                 "\ta", "a.", "a,b", "'a'", "None1"]
NO_READINGS_WORDS = ["2", "012", "a", "0a", "--", "-0", "0-", "0,1", "0\t1", "01\n", "\n01", "(0,)", "0" * 61, "1" * 62,
                     "01" * 40, "0" * 5000, "+1", "O", "l", "True"]
NO_READING_WORDS = ["2", "9", "-", "00", "01", "10", "11", "-1", "-0", "+1", "a", "1\n", "0\t", "\n0", "None", "True"]


class Rows(unittest.TestCase):
    def test_each_word(self):
        self.assertEqual({wanted[0] for row, wanted in ROWS}, set(WORDS))
        for row, wanted in ROWS:
            with self.subTest(row=row):
                told = row_of(row)
                self.assertEqual(told, wanted)
                self.assertIs(type(told), tuple)
                self.assertIs(type(told[1]), list)
                self.assertEqual([type(part) for part in told[1]], [type(part) for part in wanted[1]])

    def test_places(self):
        for place in range(100):
            for row, wanted in [(f"free {place}", [place]), (f"elder {place} 1", [place, 1]),
                                (f"elder {place} 0", [place, 0])]:
                told = row_of(row)[1]
                self.assertEqual(told, wanted)
                self.assertEqual([type(part) for part in told], [int] * len(wanted))

    def test_sixty_figures(self):
        for word in ["0" * 60, "1" * 60, "01" * 30, "0" * 59]:
            told = row_of("copy a " + word)
            self.assertEqual(told, ("copy", ["a", tuple(int(figure) for figure in word)]))
            self.assertIs(type(told[1][1]), tuple)
            self.assertEqual({type(part) for part in told[1][1]}, {int})
        self.assertRaises(NoRow, row_of, "copy a " + "0" * 61)
        self.assertRaises(NoRow, row_of, "copy a " + "01" * 31)

    def test_rows_drawn(self):
        chance = random.Random(401)
        for turn in range(200):
            name = letters(chance.randrange(600)) * chance.randrange(1, 5)
            readings = tuple(chance.randrange(2) for place in range(chance.randrange(1, 61)))
            word = "".join(str(reading) for reading in readings)
            self.assertEqual(row_of(f"copy {name} {word}"), ("copy", [name, readings]))
            self.assertEqual(row_of(f"drop {name}"), ("drop", [name]))
            self.assertEqual(row_of(f"mixed {name}"), ("mixed", [name]))

    def test_a_told_list_that_is_changed(self):
        for row, wanted in ROWS:
            told = row_of(row)
            self.assertIsNot(row_of(row), told)
            self.assertIsNot(row_of(row)[1], told[1])
            told[1].append("x")
            told[1].reverse()
            self.assertEqual(row_of(row), wanted)
            told[1].clear()
            self.assertEqual(row_of(row), wanted)

    def test_by_its_name(self):
        self.assertEqual(row_of(row="drop rome"), ("drop", ["rome"]))


class Refusals(unittest.TestCase):
    def refuse(self, row):
        with self.assertRaises(NoRow) as caught:
            row_of(row)
        self.assertIsInstance(caught.exception, KinError)

    def test_what_is_no_text(self):
        for number, thing in enumerate(others(str) + [["table"], ("table",), b"table", {"table": []}, [["copy", "a"]]]):
            with self.subTest(number=number):
                self.refuse(thing)

    def test_the_text_without_signs_and_blanks(self):
        for row in ["", " ", "  ", "   ", "\n", "\t", "-", "\n\n"]:
            self.refuse(row)

    def test_a_word_that_is_none(self):
        for row in ["tables", "tabl", "ta", "t", "xtable", "copies", "node", "put", "off", "say", "read", "ok", "copy0",
                    "a 0", "rome 011", "0", "elderly 0 1", "fre 0", "mixer", "mix a", "root", "names", "table table",
                    "None", "quit", "help", "()", "table;tree", "table,", "table.", "-table", "copy,a,0", "mixed-a"]:
            self.refuse(row)

    def test_a_great_letter(self):
        for row, wanted in ROWS:
            self.refuse(row.upper())
            self.refuse(row.capitalize())
            self.refuse(row[:1] + row[1:2].upper() + row[2:])
        self.refuse("copy Rome 01")
        self.refuse("drop romE")
        self.refuse("mixed A")

    def test_a_word_more_or_less(self):
        for row, wanted in ROWS:
            words = row.split(" ")
            for more in ["a", "0", "-", "x", "1", "01", words[-1]]:
                self.refuse(row + " " + more)
            self.refuse("a " + row)
            if len(words) > 1:
                self.refuse(" ".join(words[:-1]))
                self.refuse(words[0])
                if words[1] not in WORDS:
                    self.refuse(" ".join(words[1:]))
                self.refuse(words[0] + " " + " ".join(words))

    def test_blanks_ahead_behind_and_between(self):
        for row, wanted in ROWS:
            for wrong in [" " + row, row + " ", "  " + row, row + "  ", " " + row + " ", row.replace(" ", "  ")]:
                if wrong != row:
                    self.refuse(wrong)
            words = row.split(" ")
            for place in range(1, len(words)):
                self.refuse(" ".join(words[:place]) + "  " + " ".join(words[place:]))

    def test_tabs_and_line_ends(self):
        for row, wanted in ROWS:
            for sign in ["\t", "\n", "\r", "\v", "\f", "\0", "\r\n"]:
                self.refuse(row + sign)
                self.refuse(sign + row)
                if " " in row:
                    self.refuse(row.replace(" ", sign))
                    self.refuse(row.replace(" ", sign, 1))
                    self.refuse(row.replace(" ", " " + sign))
                    self.refuse(row.replace(" ", sign + " "))
            self.refuse(row + "\n" + row)

    def test_places_that_are_none(self):
        for word in NO_PLACE_WORDS:
            with self.subTest(word=word[:9]):
                self.refuse("free " + word)
                self.refuse(f"elder {word} 0")
                self.refuse(f"elder {word} 1")

    def test_every_sign(self):
        for sign in [chr(number) for number in range(128) if chr(number) != " "]:
            for row, good in [(f"free {sign}", "0123456789"), (f"free 1{sign}", "0123456789"), (f"free 0{sign}", ""),
                              (f"free {sign}1", "123456789"), (f"elder {sign} 0", "0123456789"),
                              (f"elder 0 {sign}", "01"), (f"elder 0 0{sign}", ""), (f"copy a {sign}", "01-"),
                              (f"copy a 0{sign}", "01"), (f"copy a {sign}1", "01"), (f"table{sign}", "")]:
                if sign in good:
                    self.assertEqual(row_of(row)[0], row.split(" ")[0])
                else:
                    self.refuse(row)
            for row in [f"copy {sign} 0", f"drop {sign}", f"mixed {sign}", f"drop a{sign}", f"drop {sign}b"]:
                if sign in "abcdefghijklmnopqrstuvwxyz":
                    self.assertEqual(row_of(row)[0], row.split(" ")[0])
                else:
                    self.refuse(row)

    def test_readings_of_a_place_that_are_none(self):
        for word in NO_READING_WORDS:
            with self.subTest(word=word):
                self.refuse(f"elder 0 {word}")
                self.refuse(f"elder 12 {word}")

    def test_names_that_are_none(self):
        for word in NO_NAME_WORDS:
            with self.subTest(word=word[:12]):
                for row in [f"copy {word} 01", f"copy {word} -", f"drop {word}", f"mixed {word}"]:
                    self.refuse(row)

    def test_readings_that_are_none(self):
        for word in NO_READINGS_WORDS:
            with self.subTest(word=word[:9]):
                self.refuse("copy a " + word)

    def test_parts_in_each_others_place(self):
        for row in ["copy 01 a", "copy - a", "copy 0 0", "elder a 0", "elder 0 a", "elder 1 12", "drop 0", "drop -",
                    "free a", "free -", "mixed 0", "mixed -", "copy a", "copy 01", "elder 0", "elder a"]:
            self.refuse(row)

    def test_rows_put_together_wrongly(self):
        chance = random.Random(409)
        good = 0
        for turn in range(3000):
            words = [chance.choice(WORDS + ["a", "0", "1", "01", "-", "10", "", "Z"])
                     for part in range(chance.randrange(1, 5))]
            row = " ".join(words)
            word, parts = words[0], words[1:]
            names = [part.isalpha() and part.islower() for part in parts]
            fits = word in ASKING and parts == []
            fits |= word in ["drop", "mixed"] and names == [True]
            fits |= word == "copy" and len(parts) == 2 and names[0] and parts[1] in ["0", "1", "01", "-", "10"]
            fits |= word == "free" and len(parts) == 1 and parts[0] in ["0", "1", "10"]
            fits |= word == "elder" and len(parts) == 2 and parts[0] in ["0", "1", "10"] and parts[1] in ["0", "1"]
            if fits:
                good += 1
                self.assertEqual(row_of(row)[0], word)
            else:
                self.refuse(row)
        self.assertGreater(good, 100)


if __name__ == "__main__":
    unittest.main()

"""Points 1, 2, 4 and 5: names, readings, tables, places and sides."""

import unittest

from copykin.errors import NoPlace, NoReading, NoTable
from copykin.tables import are_readings, is_name, is_reading, is_torn, place_count, side, table_list
from tests.things import FOUR, NO_PLACES_OF_ANY, NO_READINGS, frozen, letters, many, no_tables, others

SMALL = "abcdefghijklmnopqrstuvwxyz"


class Names(unittest.TestCase):
    def test_each_small_letter_is_a_name(self):
        for letter in SMALL:
            self.assertIs(is_name(letter), True, letter)
            self.assertIs(is_name("x" + letter), True, letter)

    def test_one_to_eight_letters(self):
        for count in range(1, 9):
            self.assertIs(is_name(SMALL[:count]), True, count)
            self.assertIs(is_name("z" * count), True, count)

    def test_too_few_and_too_many(self):
        for text in ["", "abcdefghi", "z" * 9, "z" * 10, "z" * 16, "a" * 30000]:
            self.assertIs(is_name(text), False, len(text))

    def test_every_other_sign_anywhere(self):
        for code in range(128):
            sign = chr(code)
            if sign in SMALL:
                continue
            for text in [sign, "a" + sign, sign + "a", "a" + sign + "b", "abcdefg" + sign, sign + "abcdefg"]:
                self.assertIs(is_name(text), False, repr(text))

    def test_line_ends_tabs_and_blanks(self):
        for text in ["a\n", "abcdefgh\n", "\na", "a\t", "\ta", "a ", " a", "a b", " ", "\n", "a\r", "a\r\n", "a\x00"]:
            self.assertIs(is_name(text), False, repr(text))

    def test_other_kinds(self):
        for thing in others(str) + [["a"], ("a",), {"a": "a"}, ["a", "b"], b"abc"]:
            self.assertIs(is_name(thing), False)


class Readings(unittest.TestCase):
    def test_just_0_and_1_are_readings(self):
        self.assertIs(is_reading(0), True)
        self.assertIs(is_reading(1), True)

    def test_truths_are_none(self):
        self.assertIs(is_reading(True), False)
        self.assertIs(is_reading(False), False)

    def test_other_numbers_and_kinds_are_none(self):
        for thing in NO_READINGS + list(range(2, 100)) + list(range(-100, 0)) + ["0", "1", [0], [1], (0,), {0: 1}]:
            self.assertIs(is_reading(thing), False)

    def test_tuples_of_none_to_sixty(self):
        for count in range(61):
            self.assertIs(are_readings((0,) * count), True, count)
            self.assertIs(are_readings((1,) * count), True, count)
            self.assertIs(are_readings(((0, 1) * 30)[:count]), True, count)

    def test_more_than_sixty(self):
        for count in [61, 62, 100, 1000]:
            self.assertIs(are_readings((0,) * count), False, count)
            self.assertIs(are_readings((1,) * count), False, count)

    def test_one_part_that_is_no_reading_at_any_place(self):
        for part in NO_READINGS + [[], [0]]:
            for count in [1, 2, 5]:
                for place in range(count):
                    readings = [1] * count
                    readings[place] = part
                    self.assertIs(are_readings(tuple(readings)), False, place)
        for part in [True, False, 2, -1, "0", None, [0]]:
            for place in range(60):
                self.assertIs(are_readings((0,) * place + (part,) + (1,) * (59 - place)), False, place)

    def test_other_kinds(self):
        for thing in others(tuple) + [[0, 1], [], [0] * 60, "01", {0: 1}, range(2)]:
            self.assertIs(are_readings(thing), False)


class Tables(unittest.TestCase):
    def test_sorted_by_their_names(self):
        self.assertEqual(table_list(FOUR), [
            ("a", (1, 0, 0, 1)),
            ("abcdefgh", (1, 1, 0, 1)),
            ("bb", (1, 1, 0, 0)),
            ("d", (1, 0, 0, 1)),
        ])

    def test_by_the_names_and_not_by_the_readings(self):
        table = [("c", (0, 0)), ("a", (1, 1)), ("b", (0, 1))]
        self.assertEqual(table_list(table), [("a", (1, 1)), ("b", (0, 1)), ("c", (0, 0))])

    def test_unlike_lengths_in_any_order(self):
        names = ["ba", "b", "aaaaaaaa", "aa", "a", "zz", "ab", "z"]
        for turn in range(len(names)):
            turned = names[turn:] + names[:turn]
            told = table_list([(name, (0,)) for name in turned])
            self.assertEqual([name for name, readings in told], ["a", "aa", "aaaaaaaa", "ab", "b", "ba", "z", "zz"])

    def test_all_counts_of_copies_and_places(self):
        for copies in [0, 1, 2, 39, 40]:
            for places in [0, 1, 2, 59, 60]:
                table = many(copies, places)
                told = table_list(table)
                self.assertIs(type(told), list)
                self.assertEqual(told, list(reversed(table)))
                for copy in told:
                    self.assertIs(type(copy), tuple)
                    self.assertIs(type(copy[1]), tuple)

    def test_places_are_counted(self):
        for copies in [1, 2, 40]:
            for places in [0, 1, 2, 59, 60]:
                count = place_count(many(copies, places))
                self.assertIs(type(count), int)
                self.assertEqual(count, places)

    def test_a_table_without_copies_has_no_places(self):
        self.assertEqual(table_list([]), [])
        self.assertEqual(place_count([]), 0)
        self.assertIs(type(place_count([])), int)

    def test_what_is_told_is_the_askers_own(self):
        for table in [[], list(FOUR), [("a", (0, 1))], many(40, 60)]:
            first = table_list(table)
            wanted = frozen(first)
            self.assertIsNot(first, table)
            for copy in first:
                for given in table:
                    self.assertIsNot(copy, given)
                    self.assertIsNot(copy[1], given[1])
            first.append(("zzz", (0,)))
            first.reverse()
            first[0] = None
            self.assertEqual(frozen(table_list(table)), wanted)

    def test_what_is_handed_in_is_not_kept(self):
        table = list(FOUR)
        told = table_list(table)
        table.clear()
        self.assertEqual(len(told), 4)
        self.assertEqual(table_list(table), [])
        self.assertEqual(place_count(table), 0)

    def test_what_is_handed_in_stays_as_it_was(self):
        for table in [[], list(FOUR), many(40, 60), many(3, 0)]:
            before = frozen(table)
            table_list(table)
            place_count(table)
            self.assertEqual(frozen(table), before)

    def test_what_is_no_table_is_refused(self):
        for number, thing in enumerate(no_tables()):
            for ask in [table_list, place_count]:
                with self.subTest(number=number, ask=ask.__name__):
                    self.assertRaises(NoTable, ask, thing)

    def test_a_wrong_copy_at_any_place_is_refused(self):
        for wrong in [("a", (0, 1)), ("A", (0, 1)), ("zz", (0,)), ("zz", (0, 1, 0)), ("zz", (0, True)),
                      ("zz", [0, 1]), ("zz", (0, 2)), ["zz", (0, 1)], ("zz",), None]:
            for place in range(4):
                table = [("c", (0, 1)), ("b", (1, 1)), ("a", (0, 0))]
                table.insert(place, wrong)
                before = frozen(table)
                for ask in [table_list, place_count]:
                    self.assertRaises(NoTable, ask, table)
                self.assertEqual(frozen(table), before)

    def test_forty_copies_stand_and_forty_one_do_not(self):
        for places in [0, 1, 60]:
            self.assertEqual(len(table_list(many(40, places))), 40)
            self.assertRaises(NoTable, table_list, many(41, places))
            self.assertRaises(NoTable, place_count, many(41, places))

    def test_a_refusal_changes_nothing_of_the_next_answer(self):
        wanted = table_list(FOUR)
        self.assertRaises(NoTable, table_list, FOUR + [("d", (0, 0, 0, 0))])
        self.assertRaises(NoTable, place_count, FOUR + [("e", (0,))])
        self.assertEqual(table_list(FOUR), wanted)
        self.assertEqual(place_count(FOUR), 4)


class Sides(unittest.TestCase):
    def test_plain_and_torn_places(self):
        self.assertEqual([is_torn(FOUR, place) for place in range(4)], [False, True, False, True])
        for place in range(4):
            self.assertIs(type(is_torn(FOUR, place)), bool)

    def test_one_copy_that_reads_otherwise_tears_a_place(self):
        for reading in [0, 1]:
            for odd in range(40):
                table = [(letters(number), (1 - reading if number == odd else reading, reading))
                         for number in range(40)]
                self.assertIs(is_torn(table, 0), True)
                self.assertIs(is_torn(table, 1), False)

    def test_one_copy_has_plain_places_alone(self):
        for readings in [(0,), (1,), (0, 1, 0, 1), (0, 1) * 30]:
            for place in range(len(readings)):
                self.assertIs(is_torn([("a", readings)], place), False)
                self.assertEqual(side([("a", readings)], place, readings[place]), ["a"])
                self.assertEqual(side([("a", readings)], place, 1 - readings[place]), [])

    def test_both_sides_of_each_place(self):
        self.assertEqual(side(FOUR, 0, 0), [])
        self.assertEqual(side(FOUR, 0, 1), ["a", "abcdefgh", "bb", "d"])
        self.assertEqual(side(FOUR, 1, 0), ["a", "d"])
        self.assertEqual(side(FOUR, 1, 1), ["abcdefgh", "bb"])
        self.assertEqual(side(FOUR, 2, 0), ["a", "abcdefgh", "bb", "d"])
        self.assertEqual(side(FOUR, 2, 1), [])
        self.assertEqual(side(FOUR, 3, 0), ["bb"])
        self.assertEqual(side(FOUR, 3, 1), ["a", "abcdefgh", "d"])

    def test_the_largest_table(self):
        table = many(40, 60)
        for place in range(60):
            told = side(table, place, 0), side(table, place, 1)
            for reading in [0, 1]:
                wanted = [name for name, readings in reversed(table) if readings[place] == reading]
                self.assertEqual(told[reading], wanted)
            self.assertIs(is_torn(table, place), told[0] != [] and told[1] != [])

    def test_sides_are_the_askers_own(self):
        told = side(FOUR, 1, 0)
        self.assertIs(type(told), list)
        told.append("x")
        told.reverse()
        self.assertEqual(side(FOUR, 1, 0), ["a", "d"])
        empty = side(FOUR, 0, 0)
        empty.append("x")
        self.assertEqual(side(FOUR, 0, 0), [])
        self.assertEqual(side(FOUR, 2, 1), [])

    def test_the_table_stays_as_it_was_and_is_not_kept(self):
        table = list(FOUR)
        before = frozen(table)
        told = side(table, 1, 1)
        is_torn(table, 1)
        self.assertRaises(NoPlace, side, table, 4, 0)
        self.assertRaises(NoReading, side, table, 0, 2)
        self.assertEqual(frozen(table), before)
        table.clear()
        self.assertEqual(told, ["abcdefgh", "bb"])
        self.assertRaises(NoPlace, is_torn, table, 1)


class SideRefusals(unittest.TestCase):
    def test_no_table_goes_first(self):
        for number, thing in enumerate(no_tables()):
            with self.subTest(number=number):
                for place in [0, 99, None, True]:
                    self.assertRaises(NoTable, is_torn, thing, place)
                    for reading in [0, 1, 2, None]:
                        self.assertRaises(NoTable, side, thing, place, reading)

    def test_no_table_goes_ahead_of_every_wrong_place_and_reading(self):
        wrong = [("a", (0,)), ("a", (1,))]
        for place in NO_PLACES_OF_ANY:
            self.assertRaises(NoTable, is_torn, wrong, place)
            self.assertRaises(NoTable, side, wrong, place, 0)
        for reading in NO_READINGS:
            self.assertRaises(NoTable, side, wrong, 0, reading)

    def test_no_place_goes_ahead_of_no_reading(self):
        for table in [FOUR, many(40, 60), [("a", (0,))], [("a", ())], []]:
            for place in NO_PLACES_OF_ANY:
                self.assertRaises(NoPlace, is_torn, table, place)
                for reading in [0, 1, 2, -1, True, "0", None, [0]]:
                    self.assertRaises(NoPlace, side, table, place, reading)

    def test_the_last_place_and_the_one_behind_it(self):
        for places in [1, 2, 59, 60]:
            table = many(3, places)
            self.assertIs(type(is_torn(table, places - 1)), bool)
            self.assertIs(type(side(table, places - 1, 0)), list)
            for place in [-1, -places, places, places + 1]:
                self.assertRaises(NoPlace, is_torn, table, place)
                self.assertRaises(NoPlace, side, table, place, 0)

    def test_a_truth_is_no_place(self):
        for place in [True, False]:
            self.assertRaises(NoPlace, is_torn, FOUR, place)
            self.assertRaises(NoPlace, side, FOUR, place, 0)

    def test_the_table_without_copies_and_that_without_places_have_no_place(self):
        for table in [[], [("a", ())], many(40, 0)]:
            for place in list(range(-2, 61)) + NO_PLACES_OF_ANY:
                self.assertRaises(NoPlace, is_torn, table, place)
                self.assertRaises(NoPlace, side, table, place, 0)
                self.assertRaises(NoPlace, side, table, place, None)

    def test_no_reading(self):
        for table in [FOUR, [("a", (0,))], many(40, 60)]:
            for reading in NO_READINGS + [True, False, 2, -1, "0", None, [0]]:
                self.assertRaises(NoReading, side, table, 0, reading)

    def test_arguments_by_their_names(self):
        self.assertIs(is_name(thing="a"), True)
        self.assertIs(is_reading(thing=1), True)
        self.assertIs(are_readings(thing=()), True)
        self.assertEqual(len(table_list(table=FOUR)), 4)
        self.assertEqual(place_count(table=FOUR), 4)
        self.assertIs(is_torn(table=FOUR, place=1), True)
        self.assertEqual(side(table=FOUR, place=1, reading=0), ["a", "d"])


if __name__ == "__main__":
    unittest.main()

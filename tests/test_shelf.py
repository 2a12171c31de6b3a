"""Point 14: the shelf, its copies and its tree."""

import itertools
import random
import unittest

from copykin.clashes import clash
from copykin.errors import Clash, KinError, NoName, NoReading, NoTable, Twice
from copykin.shelf import Shelf
from copykin.trees import tree
from tests.things import (
    CLASHES, NO_NAMES, NO_READINGS, Thing, at_random, endless, frozen, grown_at_random, letters, many, named, others,
    shuffled, told_trees,
)

ROUND = named("100", "010", "001")

NO_LIST_OF_READINGS = others(tuple) + [
    [0, 1, 0], "010", {0: 1}, range(2), (0,) * 61, (1,) * 61, (0, 1) * 40, ((0, 1, 0),), ("0", "1", "0"), ("010",),
    (0, 1, Thing()), (Thing(),), (endless(),), ([], 0, 1), (None, 0, 1), (0, 1, None),
] + [(part, 0, 1) for part in NO_READINGS] + [(0, 1, part) for part in NO_READINGS] + [(part,) for part in NO_READINGS]


def shelf_of(table):
    shelf = Shelf()
    for name, readings in table:
        shelf.put(name, readings)
    return shelf


def asked(shelf):
    """What the shelf tells."""
    return (frozen(shelf.table()), frozen(shelf.tree()))


class Put(unittest.TestCase):
    def test_without_copies(self):
        shelf = Shelf()
        self.assertEqual(shelf.table(), [])
        self.assertEqual(shelf.tree(), ([], []))
        self.assertIs(type(shelf.table()), list)
        self.assertIs(type(shelf.tree()), tuple)

    def test_nothing_is_told(self):
        shelf = Shelf()
        self.assertIsNone(shelf.put("b", (0, 1)))
        self.assertIsNone(shelf.put("a", (0, 1)))
        self.assertIsNone(shelf.off("b"))
        self.assertIsNone(shelf.off("a"))

    def test_by_their_names(self):
        shelf = Shelf()
        shelf.put(name="b", readings=(0, 1))
        shelf.put(readings=(1, 1), name="a")
        self.assertEqual(shelf.table(), [("a", (1, 1)), ("b", (0, 1))])
        shelf.off(name="b")
        self.assertEqual(shelf.table(), [("a", (1, 1))])

    def test_told_trees_in_several_orders(self):
        chance = random.Random(211)
        for words, table, wanted in told_trees():
            orders = itertools.permutations(table) if len(table) < 4 else [shuffled(chance, table) for turn in range(9)]
            for order in orders:
                with self.subTest(words=words, order=order):
                    shelf = shelf_of(order)
                    self.assertEqual(shelf.table(), sorted(table))
                    self.assertEqual(shelf.tree(), wanted)

    def test_the_tree_behind_each_step(self):
        chance = random.Random(223)
        for turn in range(60):
            table = grown_at_random(chance, chance.randrange(1, 12), chance.randrange(0, 12))
            shelf = Shelf()
            for count, copy in enumerate(table, start=1):
                shelf.put(copy[0], copy[1])
                self.assertEqual(shelf.table(), sorted(table[:count]))
                self.assertEqual(shelf.tree(), tree(table[:count]))
            for count, copy in enumerate(table, start=1):
                shelf.off(copy[0])
                self.assertEqual(shelf.table(), sorted(table[count:]))
                self.assertEqual(shelf.tree(), tree(table[count:]))

    def test_put_and_off_at_random(self):
        chance = random.Random(227)
        refused = 0
        for turn in range(30):
            shelf = Shelf()
            kept = []
            for step in range(40):
                copy = (letters(chance.randrange(12)), tuple(chance.randrange(2) for place in range(4)))
                if copy[0] in dict(kept):
                    shelf.off(copy[0])
                    kept = [other for other in kept if other[0] != copy[0]]
                elif clash(kept + [copy]) is None:
                    shelf.put(copy[0], copy[1])
                    kept.append(copy)
                else:
                    self.assertRaises(Clash, shelf.put, copy[0], copy[1])
                    refused += 1
                self.assertEqual(shelf.table(), sorted(kept))
                self.assertEqual(shelf.tree(), tree(kept))
        self.assertGreater(refused, 100)

    def test_forty_copies_and_sixty_places(self):
        chance = random.Random(229)
        table = grown_at_random(chance, 40, 60)
        shelf = shelf_of(table)
        self.assertEqual(shelf.table(), sorted(table))
        self.assertEqual(shelf.tree(), tree(table))
        self.assertEqual(shelf_of(many(40, 0)).table(), sorted(many(40, 0)))

    def test_copies_that_read_alike(self):
        shelf = shelf_of(named("01", "01", "01"))
        self.assertEqual(shelf.tree(), ([(0, 1)], []))
        shelf.off("a")
        self.assertEqual(shelf.table(), [("b", (0, 1)), ("c", (0, 1))])

    def test_any_count_of_places_where_none_is_left(self):
        shelf = Shelf()
        for count in [3, 0, 60, 1, 2]:
            shelf.put("a", (0,) * count)
            shelf.put("b", (1,) * count)
            self.assertRaises(NoTable, shelf.put, "c", (0,) * (count + 1 if count < 60 else 59))
            shelf.off("a")
            self.assertRaises(NoTable, shelf.put, "c", (0,) * (count + 1 if count < 60 else 59))
            shelf.off("b")
            self.assertEqual(shelf.table(), [])
            self.assertEqual(shelf.tree(), ([], []))

    def test_a_name_may_come_again_when_it_is_off(self):
        shelf = shelf_of(ROUND)
        shelf.off("b")
        shelf.put("b", (1, 1, 0))
        self.assertEqual(shelf.table(), [("a", (1, 0, 0)), ("b", (1, 1, 0)), ("c", (0, 0, 1))])

    def test_a_copy_that_clashes_may_come_when_another_is_off(self):
        shelf = shelf_of(named("00", "01", "10"))
        self.assertRaises(Clash, shelf.put, "d", (1, 1))
        shelf.off("a")
        shelf.put("d", (1, 1))
        self.assertEqual(shelf.tree(), tree([("b", (0, 1)), ("c", (1, 0)), ("d", (1, 1))]))


class Kept(unittest.TestCase):
    def test_what_is_told_and_then_changed(self):
        shelf = shelf_of(ROUND)
        before = asked(shelf)
        table = shelf.table()
        table.append(("z", (0, 0, 0)))
        table.reverse()
        nodes, branches = shelf.tree()
        nodes.clear()
        branches.append(None)
        self.assertEqual(asked(shelf), before)
        shelf.table().clear()
        shelf.off("a")
        shelf.put("a", (1, 0, 0))
        self.assertEqual(asked(shelf), before)
        empty = Shelf()
        empty.table().append(("a", (0,)))
        empty.tree()[0].append((0,))
        empty.tree()[1].append(None)
        self.assertEqual((empty.table(), empty.tree()), ([], ([], [])))

    def test_what_is_told_is_new(self):
        shelf = shelf_of(ROUND)
        self.assertIsNot(shelf.table(), shelf.table())
        self.assertIsNot(shelf.table()[0], shelf.table()[0])
        self.assertIsNot(shelf.table()[0][1], shelf.table()[0][1])
        self.assertIsNot(shelf.tree(), shelf.tree())
        self.assertIsNot(shelf.tree()[0], shelf.tree()[0])
        self.assertIsNot(shelf.tree()[0][1], shelf.tree()[0][1])
        self.assertIsNot(shelf.tree()[1], shelf.tree()[1])
        self.assertIsNot(shelf.tree()[1][0][2], shelf.tree()[1][0][2])

    def test_a_table_told_ahead_stays(self):
        shelf = shelf_of(ROUND)
        table = shelf.table()
        whole = shelf.tree()
        before = (frozen(table), frozen(whole))
        shelf.off("a")
        shelf.put("z", (1, 1, 0))
        self.assertEqual((frozen(table), frozen(whole)), before)

    def test_two_shelves(self):
        one = Shelf()
        other = Shelf()
        one.put("a", (0, 1))
        self.assertEqual(other.table(), [])
        other.put("a", (0, 1, 1))
        other.put("b", (1, 1, 1))
        one.off("a")
        self.assertEqual(one.table(), [])
        self.assertEqual(other.table(), [("a", (0, 1, 1)), ("b", (1, 1, 1))])
        self.assertEqual(other.tree(), tree(other.table()))
        self.assertEqual(Shelf().table(), [])


class Refusals(unittest.TestCase):
    def refuse(self, refusal, shelf, *copy):
        """That the shelf refuses this copy so, and is as ahead of it; told is the refusal."""
        before = asked(shelf)
        with self.assertRaises(refusal) as caught:
            shelf.put(*copy)
        self.assertIs(type(caught.exception), refusal)
        self.assertIsInstance(caught.exception, KinError)
        self.assertEqual(asked(shelf), before)
        return caught.exception

    def refuse_off(self, shelf, name):
        before = asked(shelf)
        self.assertRaises(NoName, shelf.off, name)
        self.assertEqual(asked(shelf), before)

    def shelves(self):
        """A shelf without copies, one with some, one without places, and one with forty copies."""
        return [Shelf(), shelf_of(ROUND), shelf_of(named("", "")), shelf_of(many(40, 0))]

    def test_a_name_that_is_there(self):
        shelf = shelf_of(ROUND)
        for readings in [(0, 1, 0), (1, 1, 1), (0, 0, 0), (0, 1), (0, 1, 0, 0), (), (1,) * 60]:
            self.refuse(Twice, shelf, "b", readings)

    def test_a_name_that_is_there_goes_ahead_of_all_else(self):
        full = shelf_of(many(40, 0))
        self.refuse(Twice, full, letters(39), ())
        self.refuse(Twice, full, letters(0), (0, 1))
        three = shelf_of(named("00", "01", "10"))
        self.refuse(Twice, three, "a", (1, 1))

    def test_another_count_of_places(self):
        for readings in [(), (0,), (1, 0), (1, 0, 0, 0), (1,) * 60]:
            self.refuse(NoTable, shelf_of(ROUND), "d", readings)
            self.refuse(NoTable, shelf_of(ROUND[:1]), "d", readings)
        self.refuse(NoTable, shelf_of(named("", "")), "d", (0,))

    def test_a_forty_first_copy(self):
        shelf = shelf_of(many(40, 0))
        self.refuse(NoTable, shelf, "zz", ())
        self.refuse(NoTable, shelf, "zz", (0,))
        table = [(letters(number), [(0, 0), (0, 1), (1, 0)][number % 3]) for number in range(40)]
        shelf = shelf_of(table)
        self.refuse(NoTable, shelf, "zz", (0, 0))
        self.refuse(NoTable, shelf, "zz", (1, 1))
        self.refuse(NoTable, shelf, "zz", (1, 1, 1))
        shelf.off("aa")
        self.refuse(Clash, shelf, "zz", (1, 1))
        shelf.put("zz", (0, 0))
        self.refuse(NoTable, shelf, "aa", (0, 0))

    def test_a_clash_with_its_fields(self):
        for table, wanted in CLASHES:
            for last in wanted[2]:
                others_there = [copy for copy in table if copy[0] != last]
                if clash(others_there) is None:
                    error = self.refuse(Clash, shelf_of(others_there), last, dict(table)[last])
                    self.assertEqual((error.one, error.other, error.names), wanted)
                    self.assertIs(type(error.names), tuple)

    def test_a_clash_of_the_table_behind_it(self):
        chance = random.Random(233)
        found = 0
        for turn in range(200):
            table = grown_at_random(chance, 6, 6)
            readings = tuple(chance.randrange(2) for place in range(6))
            wanted = clash(table + [("b", readings)])
            shelf = shelf_of(table)
            if wanted is None:
                shelf.put("b", readings)
                self.assertEqual(shelf.tree(), tree(table + [("b", readings)]))
            else:
                found += 1
                error = self.refuse(Clash, shelf, "b", readings)
                self.assertEqual((error.one, error.other, error.names), wanted)
        self.assertGreater(found, 50)

    def test_what_is_no_name(self):
        for shelf in self.shelves():
            for number, name in enumerate(NO_NAMES + ["Rome", "rOME", "rome ", "abcdefghi", "rome\n", "a-b", True]):
                with self.subTest(number=number):
                    self.refuse(NoName, shelf, name, (0, 1, 0))

    def test_what_is_no_name_with_no_readings_beside_it(self):
        shelf = shelf_of(ROUND)
        for name in NO_NAMES:
            for readings in [None, [0, 1, 0], (0, 2, 0), (0,) * 61, (0,), Thing(), True]:
                self.refuse(NoName, shelf, name, readings)

    def test_what_is_no_readings(self):
        for shelf in self.shelves():
            for number, readings in enumerate(NO_LIST_OF_READINGS):
                with self.subTest(number=number):
                    self.refuse(NoReading, shelf, "zz", readings)

    def test_what_is_no_readings_goes_ahead_of_a_name_that_is_there(self):
        shelf = shelf_of(ROUND)
        full = shelf_of(many(40, 0))
        for readings in NO_LIST_OF_READINGS:
            self.refuse(NoReading, shelf, "a", readings)
            self.refuse(NoReading, full, "aa", readings)

    def test_off_of_a_name_that_none_has(self):
        for shelf in self.shelves():
            for name in ["d", "zz", "abcdefgh", "ab" * 4]:
                self.refuse_off(shelf, name)
        shelf = shelf_of(ROUND)
        shelf.off("a")
        self.refuse_off(shelf, "a")

    def test_off_of_what_is_no_name(self):
        for shelf in self.shelves():
            for number, name in enumerate(NO_NAMES + ["A", "a ", ("a",), ["a"]]):
                with self.subTest(number=number):
                    self.refuse_off(shelf, name)

    def test_tables_that_clash_never_stand_on_a_shelf(self):
        chance = random.Random(239)
        for turn in range(60):
            table = at_random(chance, 8, 4)
            shelf = Shelf()
            for name, readings in table:
                try:
                    shelf.put(name, readings)
                except Clash:
                    pass
            self.assertIsNone(clash(shelf.table()))


if __name__ == "__main__":
    unittest.main()

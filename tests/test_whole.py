"""Points 1 to 3, of the whole program: what is told of tables drawn by a fixed seed, and what is handed in and told."""

import random
import unittest

from copykin.aside import comes_of, set_aside
from copykin.changes import fewest
from copykin.clashes import clash, places_clash
from copykin.desk import Desk
from copykin.errors import Clash, KinError, NoFrame, NoName, NoPlace, NoReading, NoRow, NoTable, NoTelling, NoText, Torn
from copykin.frames import frame_list
from copykin.mixing import mixed, mixers
from copykin.reader import read, read_row
from copykin.rows import row_of
from copykin.shelf import Shelf
from copykin.standing import first_read, stands
from copykin.tables import are_readings, is_name, is_reading, is_torn, place_count, side, table_list
from copykin.trees import node_of, tree
from copykin.walking import walked
from copykin.writer import readings_text, written
from tests.things import (
    Thing, at_random, frozen, grown_at_random, letters, no_tables, others, shuffled, spots, tellings_at_random,
    tellings_of,
)


def drawn(seed, turns, copies=9, places=8):
    """Tables of all sizes up to these, with and without a clash."""
    chance = random.Random(seed)
    for turn in range(turns):
        make = chance.choice([grown_at_random, at_random])
        yield make(chance, chance.randrange(0, copies + 1), chance.randrange(0, places + 1))


def sign_rows(table):
    return [f"copy {name} {readings_text(readings)}" for name, readings in table]


def tree_text(whole):
    """A tree's branches as a desk answers them."""
    rows = [" ".join([readings_text(one), readings_text(other), ",".join(map(str, places))])
            for one, other, places in whole[1]]
    return "; ".join(rows) or "-"


def desk_of(table, tellings=()):
    desk = Desk()
    for row in sign_rows(table) + [f"elder {place} {elder}" for place, elder in tellings]:
        desk.say(row)
    return desk


def shelf_of(table):
    shelf = Shelf()
    for name, readings in table:
        shelf.put(name, readings)
    return shelf


def moved(table, order):
    """The table with its places in this order."""
    return [(name, tuple(readings[place] for place in order)) for name, readings in table]


class TreeOrClash(unittest.TestCase):
    def test_just_one_is_told(self):
        found = {True: 0, False: 0}
        for table in drawn(601, 800):
            told = clash(table)
            found[told is None] += 1
            if told is None:
                self.assertIsNone(walked(table, tree(table)))
                continue
            one, other, names = told
            kinds = [(dict(table)[name][one], dict(table)[name][other]) for name in names]
            self.assertEqual(kinds, [(0, 0), (0, 1), (1, 0), (1, 1)])
            with self.assertRaises(Clash) as caught:
                tree(table)
            self.assertEqual((caught.exception.one, caught.exception.other, caught.exception.names), told)
        self.assertGreater(min(found.values()), 100)

    def test_the_same_by_a_shelf_in_any_order(self):
        chance = random.Random(607)
        for table in drawn(613, 200):
            if clash(table) is None:
                for turn in range(4):
                    shelf = shelf_of(shuffled(chance, table))
                    self.assertEqual(shelf.tree(), tree(table))
                    self.assertEqual(shelf.table(), table_list(table))
            else:
                with self.assertRaises(Clash):
                    shelf_of(shuffled(chance, table))

    def test_the_same_by_a_desk_in_any_order(self):
        chance = random.Random(617)
        for table in drawn(619, 200):
            desk = desk_of(shuffled(chance, table))
            self.assertEqual(desk.say("table"), written(table))
            told = clash(table)
            if told is None:
                self.assertEqual(desk.say("clash"), "-")
                self.assertEqual(desk.say("tree"), tree_text(tree(table)))
                self.assertEqual(desk.say("tree"), tree_text(shelf_of(table).tree()))
            else:
                self.assertEqual(desk.say("clash"), " ".join([str(told[0]), str(told[1]), *told[2]]))
                self.assertRaises(Clash, desk.say, "tree")

    def test_whatever_the_order_of_the_places(self):
        chance = random.Random(631)
        for table in drawn(641, 200):
            order = shuffled(chance, list(range(place_count(table))))
            other = moved(table, order)
            self.assertEqual(clash(table) is None, clash(other) is None)
            if clash(table) is not None:
                continue
            nodes, branches = tree(table)
            self.assertEqual(shelf_of(other).tree()[0], sorted(tuple(node[place] for place in order) for node in nodes))
            groups = sorted(sorted(order.index(place) for place in places) for one, end, places in branches)
            self.assertEqual(groups, sorted(list(places) for one, end, places in tree(other)[1]))

    def test_mixers_are_those_without_which_a_tree_is_there(self):
        for table in drawn(643, 200, 7, 5):
            if clash(table) is None:
                self.assertEqual(mixers(table), [])
                continue
            for name, readings in table:
                rest = [copy for copy in table if copy[0] != name]
                if name in mixers(table):
                    self.assertIsNone(walked(rest, shelf_of(rest).tree()))
                else:
                    self.assertRaises(Clash, tree, rest)

    def test_what_could_be_mixed(self):
        for table in drawn(647, 100, 6, 5):
            copies = dict(table)
            for name, readings in table:
                for place, one, other in mixed(table, name):
                    self.assertEqual(copies[one][:place] + copies[other][place:], readings)
                    self.assertEqual(len({name, one, other}), 3)

    def test_what_is_written_is_read_to_the_same(self):
        for table in drawn(653, 300, 20, 20):
            self.assertEqual(read(written(table)), table_list(table))
            self.assertEqual(written(read(written(table))), written(table))
            self.assertEqual(read(desk_of(table).say("table")), table_list(table))
            for row in written(table).split("\n") if table else []:
                name, readings = read_row(row)
                self.assertEqual(row_of("copy " + row), ("copy", [name, readings]))


class First(unittest.TestCase):
    def tables(self, seed, turns):
        """Tables with copies and without a clash, and tellings, some of them torn."""
        chance = random.Random(seed)
        for turn in range(turns):
            table = grown_at_random(chance, chance.randrange(1, 10), chance.randrange(0, 9))
            if turn % 4:
                tellings = tellings_of(chance, chance.choice(tree(table)[0]), chance.randrange(0, 7))
            else:
                tellings = tellings_at_random(chance, place_count(table), chance.randrange(0, 5))
            yield table, tellings

    def test_where_it_may_stand_and_what_it_read(self):
        for table, tellings in self.tables(659, 200):
            desk = desk_of(table, tellings)
            where = spots(tree(table), tellings)
            if not where:
                with self.assertRaises(Torn) as caught:
                    desk.say("stands")
                pair = [caught.exception.one, caught.exception.other]
                self.assertEqual(spots(tree(table), pair), [])
                self.assertEqual([part for part in tellings if part in pair], pair if pair[0] != pair[1] else pair[:1])
                continue
            nodes = [spot for spot, branch in where if branch is None]
            self.assertEqual(desk.say("stands"), " ".join(readings_text(node) for node in nodes))
            signs = []
            for place in range(place_count(table)):
                read_there = sorted({spot[place] for spot, branch in where})
                signs.append(str(read_there[0]) if len(read_there) == 1 else "?")
            self.assertEqual(desk.say("first"), "".join(signs) or "-")

    def test_the_same_without_those_set_aside(self):
        dropped = 0
        for table, tellings in self.tables(661, 300):
            desk = desk_of(table, tellings)
            try:
                before = desk.say("first")
            except Torn:
                self.assertRaises(Torn, desk.say, "aside")
                continue
            self.assertEqual(desk.say("aside"), " ".join(set_aside(table, tellings)) or "-")
            names = desk.say("aside").split(" ")
            for name in names if names != ["-"] else []:
                self.assertEqual(desk.say("drop " + name), "ok")
                dropped += 1
            self.assertEqual(desk.say("first"), before)
            self.assertNotEqual(desk.say("table"), "")
        self.assertGreater(dropped, 200)


# Each function that takes a table, with arguments behind it that are none.
OF_TABLES = [
    (table_list, []), (place_count, []), (is_torn, [None]), (side, [None, None]), (written, []),
    (places_clash, [None, None]), (clash, []), (tree, []), (node_of, [None]), (walked, [None]), (stands, [None]),
    (first_read, [None]), (comes_of, [None, None, None]), (set_aside, [None]), (mixers, []), (mixed, [None]),
]
TABLE = [("c", (0, 1, 0)), ("a", (0, 0, 0)), ("b", (1, 1, 0))]
# Each refusal of an argument behind the table: the function, what stands ahead and behind, and what is refused so.
BEHIND = [
    (is_torn, [], [], NoPlace), (side, [], [0], NoPlace), (side, [], [None], NoPlace), (side, [0], [], NoReading),
    (places_clash, [], [0], NoPlace), (places_clash, [], [None], NoPlace), (places_clash, [0], [], NoPlace),
    (node_of, [], [], NoName), (stands, [], [], NoTelling), (first_read, [], [], NoTelling),
    (comes_of, [], ["a", "b"], NoTelling), (comes_of, [], [None, None], NoTelling), (comes_of, [[]], ["a"], NoName),
    (comes_of, [[]], [None], NoName), (comes_of, [[], "a"], [], NoName), (set_aside, [], [], NoTelling),
    (mixed, [], [], NoName),
]
KINDS = {NoPlace: int, NoReading: int, NoName: str, NoTelling: list}


class HandedIn(unittest.TestCase):
    def test_the_first_refusal_goes_first_of_any_kind(self):
        for asked, behind in OF_TABLES:
            for number, thing in enumerate(no_tables()):
                with self.subTest(asked=asked.__name__, number=number):
                    self.assertRaises(NoTable, asked, thing, *behind)
                    self.assertRaises(NoTable, asked, thing, *[Thing() for part in behind])

    def test_arguments_behind_the_table_of_any_kind(self):
        before = frozen(TABLE)
        for asked, ahead, behind, refusal in BEHIND:
            for number, thing in enumerate(others(KINDS[refusal])):
                with self.subTest(asked=asked.__name__, number=number):
                    self.assertRaises(refusal, asked, TABLE, *ahead, thing, *behind)
        self.assertEqual(frozen(TABLE), before)

    def test_texts_rows_and_frames_of_any_kind(self):
        for thing in others(str):
            self.assertRaises(NoText, read, thing)
            self.assertRaises(NoRow, row_of, thing)
            self.assertRaises(NoRow, Desk().say, thing)
            self.assertIsNone(read_row(thing))
        for thing in others(list):
            self.assertRaises(NoFrame, frame_list, thing)
            self.assertRaises(NoFrame, fewest, thing, None)
        for thing in others(dict):
            self.assertRaises(NoFrame, fewest, [("a", "b")], thing)

    def test_truths_are_no_whole_numbers(self):
        for truth in [True, False]:
            self.assertIs(is_reading(truth), False)
            self.assertIs(are_readings((truth,)), False)
            self.assertIs(is_name(truth), False)
            self.assertRaises(NoTable, clash, [("a", (truth,))])
            self.assertRaises(NoPlace, is_torn, TABLE, truth)
            self.assertRaises(NoPlace, places_clash, TABLE, truth, 0)
            self.assertRaises(NoReading, side, TABLE, 0, truth)
            self.assertRaises(NoTelling, stands, TABLE, [(truth, 0)])
            self.assertRaises(NoTelling, first_read, TABLE, [(0, truth)])
            self.assertRaises(NoFrame, fewest, [("a", "b")], {"a": truth})
            self.assertRaises(NoReading, Shelf().put, "a", (0, truth))
            self.assertEqual(walked([("a", (0,))], ([(truth,)], [])), "kinds")

    def asked(self, table, tellings):
        """All that is told of a table without a clash and of tellings that are not torn."""
        count = place_count(table)
        names = [name for name, readings in table]
        whole = [table_list(table), clash(table), tree(table), written(table), stands(table, tellings),
                 first_read(table, tellings), set_aside(table, tellings), mixers(table), count]
        whole += [side(table, place, reading) for place in range(count) for reading in [0, 1]]
        whole += [is_torn(table, place) for place in range(count)]
        whole += [places_clash(table, one, other) for one in range(count) for other in range(count)]
        whole += [node_of(table, name) for name in names] + [mixed(table, name) for name in names]
        whole += [comes_of(table, tellings, name, other) for name in names for other in names if name != other]
        whole += [walked(table, thing) for thing in [tree(table), ([], []), None, table]]
        return whole

    def spoil(self, thing):
        """Changes every list that is told, within tuples too."""
        if type(thing) in [list, tuple]:
            for part in thing:
                self.spoil(part)
        if type(thing) is list:
            thing.append("x")
            thing.reverse()

    def test_what_is_handed_in_stays_and_what_is_told_is_the_askers(self):
        chance = random.Random(673)
        for turn in range(40):
            table = grown_at_random(chance, chance.randrange(1, 7), chance.randrange(0, 6))
            tellings = tellings_of(chance, chance.choice(tree(table)[0]), chance.randrange(0, 4))
            before = (frozen(table), frozen(tellings))
            told = self.asked(table, tellings)
            kept = frozen(told)
            self.spoil(told)
            self.assertNotEqual(frozen(told), kept)
            self.assertEqual((frozen(table), frozen(tellings)), before)
            self.assertEqual(frozen(self.asked(table, tellings)), kept)

    def test_lists_changed_behind_a_call(self):
        table = list(TABLE)
        tellings = [(0, 0)]
        told = self.asked(table, tellings)
        kept = frozen(told)
        table.clear()
        tellings.append((1, 1))
        self.assertEqual(frozen(told), kept)
        self.assertEqual(written(table), "")

    def test_a_frame_and_what_is_read_stay(self):
        frame = [(letters(number), letters(number + 1)) for number in range(5)]
        known = {"aa": 0, "ac": 1, "af": 0}
        before = (frozen(frame), frozen(known))
        told, ways = fewest(frame, known)
        told.clear()
        ways.clear()
        frame_list(frame).clear()
        self.assertEqual((frozen(frame), frozen(known)), before)
        self.assertEqual(len(fewest(frame, known)[1]), 2)
        self.assertEqual(len(frame_list(frame)), 6)

    def test_every_refusal_is_a_kin_error(self):
        for refusal in [Clash, NoFrame, NoName, NoPlace, NoReading, NoRow, NoTable, NoTelling, NoText, Torn]:
            self.assertEqual(refusal.__bases__, (KinError,))


if __name__ == "__main__":
    unittest.main()

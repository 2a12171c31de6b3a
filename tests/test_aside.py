"""Point 13: which copy comes of which, and the copies set aside."""

import itertools
import random
import unittest

from copykin.aside import comes_of, set_aside
from copykin.errors import Clash, KinError, NoName, NoTable, NoTelling, Torn
from copykin.standing import first_read, stands
from copykin.trees import tree
from tests.things import (
    CLASHES, FOUR, NO_NAMES, Thing, frozen, grown_at_random, letters, many, named, no_tables, no_tellings,
    nodes_on_the_way, others, shuffled, spots, tellings_of, told_trees,
)

ROW = named("000", "100", "110", "111")
ROUND = named("100", "010", "001")


def comes_by_walking(table, tellings, name, other):
    """Whether the one comes of the other, by walking from each spot where the first copy may stand."""
    readings = dict(table)
    if readings[name] == readings[other]:
        return other < name
    told = tree(table)
    return all(readings[other] in nodes_on_the_way(told, spot, readings[name]) for spot in spots(told, tellings))


def pairs_of(table):
    return list(itertools.permutations([name for name, readings in table], 2))


class Asked(unittest.TestCase):
    def come(self, wanted, table, tellings):
        """That just these come of these, as texts of two names with blanks between, and so are set aside."""
        told = [name + other for name, other in pairs_of(table) if comes_of(table, tellings, name, other)]
        self.assertEqual(sorted(told), wanted.split())
        self.assertEqual(set_aside(table, tellings), sorted({pair[0] for pair in wanted.split()}))
        self.stay(table, tellings)

    def stay(self, table, tellings):
        """That what is known of the first copy stays the same without those that are set aside."""
        gone = set_aside(table, tellings)
        rest = [copy for copy in table if copy[0] not in gone]
        self.assertEqual(first_read(rest, tellings), first_read(table, tellings))


class ComesOf(Asked):
    def test_copies_that_read_alike(self):
        self.come("ba ca cb", named("01", "01", "01"), [])
        self.come("ba", named("", ""), [])
        self.come("ca db", named("0", "1", "0", "1"), [])
        self.come("ca db", [("c", (0,)), ("d", (1,)), ("b", (1,)), ("a", (0,))], [])
        self.come("ba", [("b", (0,)), ("a", (0,))], [(0, 0)])

    def test_names_are_sorted_as_texts(self):
        table = [("b", (0,)), ("abc", (0,)), ("ab", (0,))]
        self.assertTrue(comes_of(table, [], "b", "abc"))
        self.assertTrue(comes_of(table, [], "abc", "ab"))
        self.assertFalse(comes_of(table, [], "abc", "b"))
        self.assertEqual(set_aside(table, []), ["abc", "b"])

    def test_a_truth(self):
        self.assertIs(comes_of(named("0", "0"), [], "b", "a"), True)
        self.assertIs(comes_of(named("0", "0"), [], "a", "b"), False)
        self.assertIs(comes_of(named("0", "1"), [(0, 0)], "b", "a"), True)
        self.assertIs(comes_of(named("0", "1"), [(0, 0)], "a", "b"), False)
        self.assertIs(comes_of(named("0", "1"), [], "a", "b"), False)

    def test_nothing_told(self):
        # The first copy may stand at the copy's own node, so that none comes of one that reads otherwise.
        self.come("", ROW, [])
        self.come("", ROUND, [])
        self.come("da", FOUR, [])

    def test_a_copy_behind_another_one(self):
        self.come("ba", named("0", "1"), [(0, 0)])
        self.come("ab", named("0", "1"), [(0, 1)])
        self.come("ba ca cb da db dc", ROW, [(0, 0)])
        self.come("ab ac ad bc bd cd", ROW, [(2, 1)])
        self.come("ab cb db dc", ROW, [(0, 1), (1, 0)])

    def test_a_spot_at_just_one_node_from_which_it_is_not(self):
        # At b it isn't behind a, and at a it isn't behind b.
        self.come("cb db dc", ROW, [(1, 0)])
        self.come("ab", ROW, [(0, 1)])
        self.come("dc", ROW, [(2, 0)])

    def test_amid_a_branch(self):
        # One change of the branch is told and the other isn't: it may have stood between them.
        self.come("", named("00", "11"), [(0, 0)])
        self.come("", named("00", "11"), [(1, 0)])
        self.come("ba", named("00", "11"), [(0, 0), (1, 0)])
        self.come("ab", named("00", "11"), [(0, 1), (1, 1)])
        self.come("cb", named("000", "110", "111"), [(0, 0)])
        self.come("ba ca cb", named("000", "110", "111"), [(0, 0), (1, 0)])

    def test_amid_a_branch_that_leads_elsewhere(self):
        # A copy to the other side than the open branch is behind the node that is told.
        self.come("ca", named("000", "110", "001"), [(0, 0), (2, 0)])
        self.come("ba", named("000", "110", "001"), [(0, 0), (1, 0)])
        self.come("ba ca", named("000", "110", "001"), [(0, 0), (1, 0), (2, 0)])

    def test_lost_copies(self):
        # What comes of a lost copy comes of no copy that is there.
        self.come("", ROUND, [(0, 0), (1, 0), (2, 0)])
        self.come("", ROUND, [(0, 0)])
        self.come("ba ca", ROUND, [(0, 1)])
        table = ROUND + [("d", (0, 0, 0))]
        self.come("ad bd cd", table, [(0, 0), (1, 0), (2, 0)])
        self.come("ad", table, [(0, 0)])
        self.come("ba bd ca cd da", table, [(0, 1)])

    def test_copies_alike_behind_others(self):
        table = named("0", "1", "1", "0")
        self.come("ba bd ca cb cd da", table, [(0, 0)])
        self.come("ab ac cb da db dc", table, [(0, 1)])

    def test_all_places_told(self):
        for words, table, wanted in told_trees():
            for node in wanted[0]:
                tellings = list(enumerate(node))
                if table:
                    self.assertEqual(stands(table, tellings), [node])
                    for name, other in pairs_of(table):
                        self.assertEqual(comes_of(table, tellings, name, other),
                                         comes_by_walking(table, tellings, name, other), words)
                    self.stay(table, tellings)

    def test_by_walking_from_each_spot(self):
        chance = random.Random(97)
        found = {True: 0, False: 0}
        for turn in range(400):
            table = grown_at_random(chance, chance.randrange(1, 8), chance.randrange(1, 10))
            tellings = tellings_of(chance, chance.choice(tree(table)[0]), chance.randrange(0, 7))
            gone = []
            for name, other in pairs_of(table):
                told = comes_of(table, tellings, name, other)
                self.assertEqual(told, comes_by_walking(table, tellings, name, other))
                found[told] += 1
                gone += [name] if told else []
            self.assertEqual(set_aside(table, tellings), sorted(set(gone)))
        self.assertGreater(min(found.values()), 400)

    def test_whatever_the_order(self):
        chance = random.Random(101)
        for turn in range(50):
            table = grown_at_random(chance, 6, 6)
            tellings = tellings_of(chance, chance.choice(tree(table)[0]), 3)
            told = [comes_of(table, tellings, name, other) for name, other in pairs_of(table)]
            moved = shuffled(chance, table)
            turned = shuffled(chance, tellings)
            self.assertEqual([comes_of(moved, turned, name, other) for name, other in pairs_of(table)], told)
            self.assertEqual(set_aside(moved, turned), set_aside(table, tellings))

    def test_nothing_handed_in_is_changed(self):
        tellings = [(0, 0)]
        before = (frozen(ROW), frozen(tellings))
        for name, other in pairs_of(ROW):
            comes_of(ROW, tellings, name, other)
        self.assertEqual((frozen(ROW), frozen(tellings)), before)

    def test_by_their_names(self):
        self.assertTrue(comes_of(table=ROW, tellings=[(0, 0)], name="b", other="a"))


class SetAside(Asked):
    def test_no_other_copy(self):
        self.assertEqual(set_aside(named("011"), []), [])
        self.assertEqual(set_aside(named("011"), [(0, 0), (1, 1)]), [])
        self.assertEqual(set_aside(named(""), []), [])

    def test_sorted_in_a_new_list(self):
        table = [("d", (1,)), ("a", (1,)), ("c", (0,)), ("b", (1,)), ("abcdefgh", (0,))]
        tellings = [(0, 0)]
        before = (frozen(table), frozen(tellings))
        wanted = ["a", "b", "c", "d"]
        told = set_aside(table, tellings)
        self.assertEqual(told, wanted)
        self.assertIs(type(told), list)
        told.append("x")
        told.reverse()
        self.assertEqual(set_aside(table, tellings), wanted)
        told = set_aside(named("0"), [])
        told.append("x")
        self.assertEqual(set_aside(named("0"), []), [])
        self.assertEqual((frozen(table), frozen(tellings)), before)

    def test_what_is_handed_in_is_not_kept(self):
        table = list(ROW)
        tellings = [(0, 0)]
        told = set_aside(table, tellings)
        table.pop()
        tellings.clear()
        self.assertEqual(told, ["b", "c", "d"])
        self.assertEqual(set_aside(table, tellings), [])

    def test_many_copies_without_places(self):
        table = many(40, 0)
        self.assertEqual(set_aside(table, []), [letters(number) for number in range(1, 40)])

    def test_what_is_known_stays_the_same(self):
        chance = random.Random(103)
        found = 0
        for turn in range(400):
            table = grown_at_random(chance, chance.randrange(1, 12), chance.randrange(0, 12))
            tellings = tellings_of(chance, chance.choice(tree(table)[0]), chance.randrange(0, 9))
            found += len(set_aside(table, tellings))
            self.stay(table, tellings)
        self.assertGreater(found, 400)

    def test_large_tables(self):
        chance = random.Random(107)
        for turn in range(5):
            table = grown_at_random(chance, 40, 60)
            for told in [0, 10, 60]:
                tellings = tellings_of(chance, chance.choice(tree(table)[0]), told)
                self.stay(table, tellings)
                gone = set_aside(table, tellings)
                for name, other in chance.sample(pairs_of(table), 20):
                    self.assertLessEqual(comes_of(table, tellings, name, other), name in gone)

    def test_a_copy_set_aside_is_not_set_aside_twice_over(self):
        # Two that come of one another would both be gone; there are none such.
        chance = random.Random(109)
        for turn in range(40):
            table = grown_at_random(chance, 7, 6)
            tellings = tellings_of(chance, chance.choice(tree(table)[0]), 4)
            for name, other in pairs_of(table):
                self.assertFalse(comes_of(table, tellings, name, other) and comes_of(table, tellings, other, name))
            self.assertLess(len(set_aside(table, tellings)), len(table))

    def test_by_their_names(self):
        self.assertEqual(set_aside(table=ROW, tellings=[(0, 0)]), ["b", "c", "d"])


class Refusals(unittest.TestCase):
    def refuse(self, refusal, table, tellings, name="a", other="b"):
        """That both are refused so; told is the refusal of each."""
        errors = []
        for asked in [lambda: comes_of(table, tellings, name, other), lambda: set_aside(table, tellings)]:
            with self.assertRaises(refusal) as caught:
                asked()
            self.assertIsInstance(caught.exception, KinError)
            errors.append(caught.exception)
        return errors

    def test_no_table_whatever_stands_behind(self):
        for number, thing in enumerate(no_tables() + [[]]):
            with self.subTest(number=number):
                for tellings, name, other in [([], "a", "b"), (None, None, None), ([(0, 2)], "a", "a"),
                                              ([], 0, Thing()), (Thing(), Thing(), Thing())]:
                    self.refuse(NoTable, thing, tellings, name, other)

    def test_no_tellings_ahead_of_the_names(self):
        for table in [ROW, ROUND, CLASHES[0][0]]:
            for number, tellings in enumerate(no_tellings(len(table[0][1]))):
                with self.subTest(number=number):
                    for name, other in [("a", "b"), ("a", "a"), ("z", "y"), (None, Thing())]:
                        self.refuse(NoTelling, table, tellings, name, other)

    def test_no_tellings_of_a_table_without_places(self):
        for tellings in no_tellings(1) + [[(0, 0)]]:
            self.refuse(NoTelling, named("", ""), tellings)

    # A table that tells of its copies; one with a clash; one whose tellings are torn.
    ASKED = [(ROW, [(0, 0)]), (CLASHES[0][0], []), (ROW, [(0, 0), (1, 1)]), (CLASHES[3][0], [(2, 1)])]

    def test_names_that_are_none_ahead_of_clash_and_torn(self):
        for table, tellings in self.ASKED:
            for name in NO_NAMES + others(str) + ["e", "z", "aa", "abcdefgh"]:
                self.assertRaises(NoName, comes_of, table, tellings, name, "a")
                self.assertRaises(NoName, comes_of, table, tellings, "a", name)
                self.assertRaises(NoName, comes_of, table, tellings, name, name)
                self.assertRaises(NoName, comes_of, table, tellings, name, Thing())

    def test_one_copy_twice(self):
        for table, tellings in self.ASKED + [(named("0"), []), (named("", ""), [])]:
            for name, readings in table:
                self.assertRaises(NoName, comes_of, table, tellings, name, name)

    def test_a_clash_with_its_fields(self):
        for table, wanted in CLASHES:
            for tellings in [[], [(0, 0)], [(0, 1), (1, 1)]]:
                for error in self.refuse(Clash, table, tellings):
                    self.assertEqual((error.one, error.other, error.names), wanted)

    def test_a_clash_where_both_read_alike(self):
        table = CLASHES[0][0] + [("e", (0, 0))]
        self.assertRaises(Clash, comes_of, table, [], "e", "a")
        self.assertRaises(Clash, comes_of, table, [], "a", "e")

    def test_torn_with_its_fields(self):
        for tellings, one, other in [([(0, 0), (1, 1)], (0, 0), (1, 1)), ([(2, 0), (1, 1), (0, 0)], (1, 1), (0, 0))]:
            for error in self.refuse(Torn, ROW, tellings):
                self.assertEqual((error.one, error.other), (one, other))
        for error in self.refuse(Torn, named("0", "0"), [(0, 1)]):
            self.assertEqual((error.one, error.other), ((0, 1), (0, 1)))

    def test_a_clash_goes_ahead_of_torn_tellings(self):
        table = [(name, (0,) + readings) for name, readings in CLASHES[0][0]]
        self.refuse(Clash, table, [(0, 1)])

    def test_what_is_refused_changes_nothing(self):
        table = list(ROW)
        tellings = [(0, 0), (1, 1)]
        before = (frozen(table), frozen(tellings))
        self.refuse(Torn, table, tellings)
        self.assertRaises(NoName, comes_of, table, tellings, "a", "a")
        self.assertEqual((frozen(table), frozen(tellings)), before)
        self.assertEqual(set_aside(table, tellings[:1]), ["b", "c", "d"])


if __name__ == "__main__":
    unittest.main()

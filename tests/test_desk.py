"""Point 16: the desk, its answers and its refusals."""

import random
import unittest

from copykin.aside import set_aside
from copykin.clashes import clash
from copykin.desk import Desk
from copykin.errors import Clash, KinError, NoName, NoPlace, NoRow, NoTable, Torn, Twice
from copykin.mixing import mixed, mixers
from copykin.standing import first_read, stands
from copykin.tables import place_count
from copykin.trees import tree
from copykin.writer import written
from tests.things import CLASHES, at_random, grown_at_random, letters, many, named, others, tellings_of

ASKING = ["table", "clash", "tree", "first", "stands", "aside", "mixers"]

ROME = ["copy rome 011", "copy bern 001", "copy lyon 010"]


def figures_of(readings):
    return "".join(str(reading) for reading in readings) or "-"


def rows_of(table, tellings=()):
    """The rows that put this table and these tellings to a desk."""
    return ([f"copy {name} {figures_of(readings)}" for name, readings in table]
            + [f"elder {place} {elder}" for place, elder in tellings])


def told(row, desk):
    """The answer, or the refusal with its fields."""
    try:
        return desk.say(row)
    except KinError as refusal:
        fields = {name: value for name, value in vars(refusal).items()}
        return (type(refusal).__name__, fields)


def asked(desk):
    """What the desk answers to every row that only asks."""
    names = [row.split(" ")[0] for row in desk.say("table").split("\n") if row]
    return [told(row, desk) for row in ASKING + ["mixed " + name for name in names + ["zz"]]]


def desk_of(*rows):
    desk = Desk()
    for row in rows:
        if desk.say(row) != "ok":
            raise AssertionError(row)
    return desk


class Asked(unittest.TestCase):
    def refuse(self, refusal, desk, row):
        """That the desk refuses this row so, and answers as ahead of it; told is the refusal."""
        before = asked(desk)
        with self.assertRaises(refusal) as caught:
            desk.say(row)
        self.assertIs(type(caught.exception), refusal)
        self.assertIsInstance(caught.exception, KinError)
        self.assertEqual(asked(desk), before)
        return caught.exception

    def answer(self, desk, row, wanted):
        found = desk.say(row)
        self.assertIs(type(found), str)
        self.assertEqual(found, wanted)


class Copies(Asked):
    def test_without_copies(self):
        desk = Desk()
        for row, wanted in [("table", ""), ("clash", "-"), ("tree", "-"), ("mixers", "-")]:
            self.answer(desk, row, wanted)
        for row in ["first", "stands", "aside"]:
            self.refuse(NoTable, desk, row)

    def test_copies_put_and_dropped(self):
        desk = Desk()
        self.answer(desk, "copy rome 011", "ok")
        self.answer(desk, "table", "rome 011")
        self.answer(desk, "copy bern 001", "ok")
        self.answer(desk, "table", "bern 001\nrome 011")
        self.answer(desk, "drop rome", "ok")
        self.answer(desk, "table", "bern 001")
        self.answer(desk, "drop bern", "ok")
        self.answer(desk, "table", "")

    def test_the_text_of_the_table(self):
        self.answer(desk_of("copy b -", "copy a -"), "table", "a -\nb -")
        self.answer(desk_of("copy ab 0", "copy abcdefgh 1", "copy a 0"), "table", "a 0\nab 0\nabcdefgh 1")

    def test_copies_that_clash_stay(self):
        desk = desk_of("copy d 11", "copy c 10", "copy b 01", "copy a 00")
        self.answer(desk, "table", "a 00\nb 01\nc 10\nd 11")
        self.answer(desk, "copy e 11", "ok")
        self.answer(desk, "drop a", "ok")
        self.answer(desk, "clash", "-")

    def test_a_name_that_is_there(self):
        desk = desk_of(*ROME)
        for word in ["011", "000", "111", "01", "0111", "-", "0" * 60]:
            self.refuse(Twice, desk, "copy rome " + word)
        full = desk_of(*rows_of(many(40, 2)))
        self.refuse(Twice, full, "copy aa 00")
        self.refuse(Twice, full, "copy aa 000")
        desk.say("drop rome")
        self.answer(desk, "copy rome 111", "ok")

    def test_another_count_of_places(self):
        for desk in [desk_of(*ROME), desk_of(ROME[0]), desk_of("copy a 00", "copy b 01", "copy c 10", "copy d 11")]:
            count = len(desk.say("table").split("\n")[0].split(" ")[1])
            for word in ["-", "0" * (count - 1), "0" * (count + 1), "1" * 60]:
                self.refuse(NoTable, desk, "copy oslo " + word)
        self.refuse(NoTable, desk_of("copy a -"), "copy b 0")

    def test_a_forty_first_copy(self):
        for places in [0, 1, 2, 6, 60]:
            desk = desk_of(*rows_of(many(40, places)))
            word = "0" * places or "-"
            self.answer(desk, "table", written(many(40, places)))
            for wrong in [word, word + "0", "1" * places or "-"]:
                if wrong not in ["-0", "0" * 61]:
                    self.refuse(NoTable, desk, "copy zz " + wrong)
            self.answer(desk, "drop aa", "ok")
            self.answer(desk, "copy zz " + word, "ok")

    def test_any_count_of_places_where_none_is_left(self):
        desk = Desk()
        for word in ["011", "-", "0" * 60, "1"]:
            self.answer(desk, "copy a " + word, "ok")
            self.answer(desk, "copy b " + word, "ok")
            self.answer(desk, "table", f"a {word}\nb {word}")
            self.answer(desk, "drop a", "ok")
            self.refuse(NoTable, desk, "copy a 01")
            self.answer(desk, "drop b", "ok")

    def test_drop_of_a_name_that_none_has(self):
        for desk in [Desk(), desk_of(*ROME), desk_of(*ROME, "elder 1 1"), desk_of("copy a -")]:
            for name in ["oslo", "rom", "romea", "abcdefgh"]:
                self.refuse(NoName, desk, "drop " + name)
        desk = desk_of(*ROME, "drop rome")
        self.refuse(NoName, desk, "drop rome")


class Asking(Asked):
    def test_clash(self):
        self.answer(desk_of(*ROME), "clash", "-")
        self.answer(desk_of(*ROME, "copy oslo 000"), "clash", "1 2 oslo bern lyon rome")
        for table, (one, other, names) in CLASHES:
            self.answer(desk_of(*rows_of(table)), "clash", f"{one} {other} " + " ".join(names))

    def test_clash_of_places_with_two_figures(self):
        rows = [f"copy {name} 0000000000{word}0" for name, word in zip("abcd", ["00", "01", "10", "11"])]
        self.answer(desk_of(*rows), "clash", "10 11 a b c d")

    def test_tree(self):
        self.answer(desk_of("copy a 011"), "tree", "-")
        self.answer(desk_of("copy a -", "copy b -"), "tree", "-")
        self.answer(desk_of("copy a 01", "copy b 01"), "tree", "-")
        self.answer(desk_of("copy a 0", "copy b 1"), "tree", "0 1 0")
        self.answer(desk_of("copy a 0000", "copy b 1101"), "tree", "0000 1101 0,1,3")
        self.answer(desk_of(*ROME), "tree", "001 011 1; 010 011 2")
        self.answer(desk_of("copy a 100", "copy b 010", "copy c 001"), "tree", "000 001 2; 000 010 1; 000 100 0")
        self.answer(desk_of("copy a " + "0" * 12, "copy b 0" + "1" * 11), "tree",
                    "0" * 12 + " 0" + "1" * 11 + " 1,2,3,4,5,6,7,8,9,10,11")
        self.answer(desk_of("copy a 00000", "copy b 11000", "copy c 00110"), "tree",
                    "00000 00110 2,3; 00000 11000 0,1")

    def test_first(self):
        desk = desk_of(*ROME)
        self.answer(desk, "first", "0??")
        desk.say("elder 1 1")
        self.answer(desk, "first", "01?")
        desk.say("elder 2 1")
        self.answer(desk, "first", "011")
        self.answer(desk_of("copy a 011"), "first", "011")
        self.answer(desk_of("copy a 0", "copy b 1"), "first", "?")
        self.answer(desk_of("copy a -"), "first", "-")
        self.answer(desk_of("copy a -", "copy b -"), "first", "-")

    def test_stands(self):
        desk = desk_of(*ROME)
        self.answer(desk, "stands", "001 010 011")
        desk.say("elder 1 1")
        self.answer(desk, "stands", "010 011")
        desk.say("elder 2 1")
        self.answer(desk, "stands", "011")
        self.answer(desk_of("copy a -", "copy b -"), "stands", "-")
        self.answer(desk_of("copy a 100", "copy b 010", "copy c 001"), "stands", "000 001 010 100")

    def test_aside(self):
        desk = desk_of(*ROME)
        self.answer(desk, "aside", "-")
        desk.say("elder 1 1")
        self.answer(desk, "aside", "bern")
        desk.say("elder 2 1")
        self.answer(desk, "aside", "bern lyon")
        self.answer(desk_of("copy c -", "copy b -", "copy a -"), "aside", "b c")
        self.answer(desk_of("copy a 0"), "aside", "-")

    def test_mixers(self):
        self.answer(desk_of(*ROME), "mixers", "-")
        self.answer(desk_of(*ROME, "copy oslo 000"), "mixers", "bern lyon oslo rome")
        self.answer(desk_of(*ROME, "copy oslo 000", "copy paris 000"), "mixers", "bern lyon rome")
        self.answer(desk_of(*ROME, *[f"copy {name} {word}" for name, word in
                                     [("a", "000"), ("b", "000"), ("c", "011"), ("d", "010"), ("e", "001")]]),
                    "mixers", "-")
        self.answer(desk_of(*ROME, "copy oslo 000", "copy paris 000", "copy a 011", "copy b 010"), "mixers", "bern")

    def test_mixed(self):
        desk = desk_of(*ROME)
        self.answer(desk, "mixed rome", "2 lyon bern")
        self.answer(desk, "mixed bern", "-")
        desk.say("copy oslo 000")
        self.answer(desk, "mixed oslo", "2 bern lyon")
        desk = desk_of("copy a 000", "copy b 000", "copy c 000")
        self.answer(desk, "mixed a", "1 b c; 1 c b; 2 b c; 2 c b")
        self.answer(desk_of("copy a -", "copy b -", "copy c -"), "mixed a", "-")
        self.answer(desk_of("copy a 0", "copy b 0", "copy c 0"), "mixed c", "-")
        desk = desk_of("copy a " + "0" * 11 + "1", "copy b " + "0" * 12, "copy c " + "1" * 12)
        self.answer(desk, "mixed a", "11 b c")

    def test_mixed_of_a_name_that_none_has(self):
        for desk in [Desk(), desk_of(*ROME), desk_of(*ROME, "copy oslo 000"), desk_of("copy a -")]:
            for name in ["paris", "rom", "romea", "abcdefgh"]:
                self.refuse(NoName, desk, "mixed " + name)

    def test_asking_changes_nothing(self):
        for rows in [[], ROME, ROME + ["elder 1 1", "elder 2 0"], ROME + ["copy oslo 000", "elder 0 1"]]:
            desk = desk_of(*rows)
            first = asked(desk)
            self.assertEqual(asked(desk), first)
            self.assertEqual([told(row, desk_of(*rows)) for row in ASKING], first[:len(ASKING)])


class Tellings(Asked):
    def test_a_telling_put_twice_for_one_place(self):
        desk = desk_of(*ROME, "elder 1 1")
        self.answer(desk, "first", "01?")
        self.answer(desk, "elder 1 0", "ok")
        self.answer(desk, "first", "001")
        self.answer(desk, "stands", "001")
        self.answer(desk, "elder 1 1", "ok")
        self.answer(desk, "first", "01?")
        self.answer(desk, "free 1", "ok")
        self.answer(desk, "first", "0??")
        self.refuse(NoPlace, desk, "free 1")

    def torn(self, desk):
        found = [self.refuse(Torn, desk, row) for row in ["first", "stands", "aside"]]
        pairs = [(error.one, error.other) for error in found]
        self.assertEqual(pairs, pairs[:1] * 3)
        self.assertEqual([type(part) for part in pairs[0]], [tuple, tuple])
        return pairs[0]

    def test_the_last_one_is_the_last_of_the_order(self):
        desk = desk_of(*ROME, "elder 1 0", "elder 2 0")
        self.assertEqual(self.torn(desk), ((1, 0), (2, 0)))
        desk.say("elder 1 0")
        self.assertEqual(self.torn(desk), ((2, 0), (1, 0)))
        desk.say("elder 1 1")
        self.answer(desk, "stands", "010")
        desk.say("elder 1 0")
        self.assertEqual(self.torn(desk), ((2, 0), (1, 0)))
        desk.say("elder 2 0")
        self.assertEqual(self.torn(desk), ((1, 0), (2, 0)))

    def test_torn_by_one_telling(self):
        desk = desk_of(*ROME, "elder 0 1")
        self.assertEqual(self.torn(desk), ((0, 1), (0, 1)))
        desk.say("elder 0 0")
        self.answer(desk, "first", "0??")

    def test_the_first_two_in_the_order_of_the_list(self):
        rows = ["copy a 1000", "copy b 0100", "copy c 0010", "copy d 0001"]
        desk = desk_of(*rows, "elder 3 1", "elder 2 1", "elder 1 1", "elder 0 1")
        self.assertEqual(self.torn(desk), ((3, 1), (2, 1)))
        desk.say("free 2")
        self.assertEqual(self.torn(desk), ((3, 1), (1, 1)))
        desk.say("elder 3 0")
        self.assertEqual(self.torn(desk), ((1, 1), (0, 1)))
        desk.say("free 0")
        self.answer(desk, "stands", "0100")

    def test_tellings_that_are_torn_leave_the_rest(self):
        desk = desk_of(*ROME, "elder 1 0", "elder 2 0")
        for row, wanted in [("tree", "001 011 1; 010 011 2"), ("clash", "-"), ("mixers", "-"),
                            ("mixed rome", "2 lyon bern"), ("table", "bern 001\nlyon 010\nrome 011")]:
            self.answer(desk, row, wanted)
        self.answer(desk, "free 2", "ok")
        self.answer(desk, "stands", "001")

    def test_elder_of_a_place_that_the_table_has_not(self):
        for place in [0, 1, 59, 60, 99]:
            self.refuse(NoPlace, Desk(), f"elder {place} 0")
            self.refuse(NoPlace, desk_of("copy a -"), f"elder {place} 1")
        for place in [3, 4, 10, 60, 99]:
            self.refuse(NoPlace, desk_of(*ROME), f"elder {place} 0")
            self.refuse(NoPlace, desk_of(*ROME, "copy oslo 000", "elder 1 1"), f"elder {place} 1")
        desk = desk_of("copy a " + "0" * 60)
        self.answer(desk, "elder 59 0", "ok")
        self.refuse(NoPlace, desk, "elder 60 0")

    def test_free_of_a_place_that_no_telling_has(self):
        self.refuse(NoPlace, Desk(), "free 0")
        desk = desk_of(*ROME, "elder 1 1")
        for place in [0, 2, 3, 10, 11, 99]:
            self.refuse(NoPlace, desk, f"free {place}")
        self.answer(desk, "free 1", "ok")
        self.refuse(NoPlace, desk, "free 1")

    def test_tellings_go_with_the_last_copy(self):
        desk = desk_of(*ROME, "elder 0 0", "elder 1 1", "elder 2 1")
        for name in ["rome", "bern"]:
            self.answer(desk, "drop " + name, "ok")
        self.answer(desk, "elder 1 1", "ok")
        self.refuse(Torn, desk, "first")
        self.answer(desk, "drop lyon", "ok")
        for place in range(3):
            self.refuse(NoPlace, desk, f"free {place}")
            self.refuse(NoPlace, desk, f"elder {place} 0")
        for row in ROME:
            self.answer(desk, row, "ok")
        self.answer(desk, "first", "0??")
        for place in range(3):
            self.refuse(NoPlace, desk, f"free {place}")

    def test_tellings_stay_while_a_copy_is_there(self):
        desk = desk_of(*ROME, "elder 1 0")
        self.answer(desk, "drop rome", "ok")
        self.answer(desk, "drop lyon", "ok")
        self.answer(desk, "first", "001")
        for row in [ROME[0], ROME[2]]:
            desk.say(row)
        self.answer(desk, "first", "001")

    def test_tellings_of_a_table_that_clashes(self):
        desk = desk_of(*ROME, "copy oslo 000", "elder 1 1", "elder 2 0")
        for row in ["first", "stands", "aside"]:
            self.refuse(Clash, desk, row)
        desk.say("drop oslo")
        self.answer(desk, "stands", "010")


class Refusals(Asked):
    def desks(self):
        return [Desk(), desk_of(*ROME), desk_of(*ROME, "copy oslo 000", "elder 1 1"), desk_of("copy a -"),
                desk_of(*ROME, "elder 1 0", "elder 2 0")]

    def test_no_row(self):
        for desk in self.desks():
            for row in ["", " ", "tables", "Table", "table ", " table", "table\n", "tab le", "table table", "copy",
                        "copy a", "copy a 2", "copy A 0", "copy a 0 0", "copy  a 0", "copy abcdefghi 0", "copy a --",
                        "copy a " + "0" * 61, "drop", "drop A", "drop a b", "drop 1", "elder 0", "elder 00 0",
                        "elder 07 0", "elder 100 0", "elder 0 2", "elder -1 0", "elder 0 0 0", "elder x 0", "elder 0 x",
                        "free", "free 01", "free 123", "free a", "free 0 0", "mixed", "mixed 0", "mixed A", "mixed a b",
                        "ok", "-", "a 0", "table\ttree", "clash -", "tree 0", "first 0", "stands a", "aside a",
                        "mixers a", "copy\ta\t0", "copy a 0\n", "copy a 0\ncopy b 0"]:
                self.refuse(NoRow, desk, row)

    def test_what_is_no_text(self):
        for desk in self.desks():
            for number, thing in enumerate(others(str) + [["table"], b"table", ("copy", "a", (0,))]):
                with self.subTest(number=number):
                    self.refuse(NoRow, desk, thing)

    def test_no_row_goes_ahead(self):
        desk = desk_of(*ROME)
        for row in ["copy rome 2", "copy rome " + "0" * 61, "drop ROME", "elder 007 0", "elder 60 2", "free 060"]:
            self.refuse(NoRow, desk, row)

    def test_a_clash_with_its_fields(self):
        for table, wanted in CLASHES:
            for tellings in [[], [(0, 0)], [(0, 1), (1, 1)]]:
                desk = desk_of(*rows_of(table, tellings))
                for row in ["tree", "first", "stands", "aside"]:
                    error = self.refuse(Clash, desk, row)
                    self.assertEqual((error.one, error.other, error.names), wanted)

    def test_a_clash_goes_ahead_of_torn_tellings(self):
        desk = desk_of("copy a 000", "copy b 001", "copy c 010", "copy d 011", "elder 0 1")
        for row in ["first", "stands", "aside"]:
            self.refuse(Clash, desk, row)

    def test_without_copies_behind_the_last_one(self):
        desk = desk_of("copy a 0", "elder 0 0", "drop a")
        for row in ["first", "stands", "aside"]:
            self.refuse(NoTable, desk, row)

    def test_two_desks(self):
        one = Desk()
        other = Desk()
        one.say("copy a 01")
        self.answer(other, "table", "")
        other.say("copy a 011")
        one.say("elder 0 0")
        self.refuse(NoPlace, other, "free 0")
        one.say("drop a")
        self.answer(other, "table", "a 011")
        self.answer(Desk(), "table", "")

    def test_by_its_name(self):
        desk = Desk()
        self.assertEqual(desk.say(row="copy a 0"), "ok")
        self.assertEqual(desk.say(row="table"), "a 0")


class Kept:
    """What a desk has by the words of the document: a table and tellings."""

    def __init__(self):
        self.copies = []
        self.tellings = []

    def refusal(self, words):
        """The class with which a row that changes something is refused, or None."""
        names = [name for name, readings in self.copies]
        if words[0] == "copy":
            if words[1] in names:
                return Twice
            count = 0 if words[2] == "-" else len(words[2])
            wrong = self.copies and count != place_count(self.copies)
            return NoTable if wrong or len(self.copies) == 40 else None
        if words[0] == "drop":
            return None if words[1] in names else NoName
        if words[0] == "elder":
            return None if int(words[1]) < place_count(self.copies) else NoPlace
        return None if int(words[1]) in [place for place, elder in self.tellings] else NoPlace

    def change(self, words):
        if words[0] == "copy":
            self.copies.append((words[1], tuple(int(figure) for figure in words[2] if figure != "-")))
        elif words[0] == "drop":
            self.copies = [copy for copy in self.copies if copy[0] != words[1]]
        else:
            self.tellings = [telling for telling in self.tellings if telling[0] != int(words[1])]
        if words[0] == "elder":
            self.tellings.append((int(words[1]), int(words[2])))
        if not self.copies:
            self.tellings = []

    def answer(self, row):
        """The answer to a row that asks, or the refusal, by what the stages tell."""
        word, *names = row.split(" ")
        stages = {
            "table": lambda: written(self.copies),
            "clash": lambda: self.clash(),
            "tree": lambda: "; ".join(f"{figures_of(one)} {figures_of(other)} " + ",".join(map(str, places))
                                      for one, other, places in tree(self.copies)[1]) or "-",
            "first": lambda: "".join("?" if part is None else str(part)
                                     for part in first_read(self.copies, self.tellings)) or "-",
            "stands": lambda: " ".join(figures_of(node) for node in stands(self.copies, self.tellings)),
            "aside": lambda: " ".join(set_aside(self.copies, self.tellings)) or "-",
            "mixers": lambda: " ".join(mixers(self.copies)) or "-",
            "mixed": lambda: "; ".join(f"{place} {one} {other}"
                                       for place, one, other in mixed(self.copies, names[0])) or "-",
        }
        try:
            return stages[word]()
        except KinError as refusal:
            return (type(refusal).__name__, dict(vars(refusal)))

    def clash(self):
        found = clash(self.copies)
        return "-" if found is None else " ".join([str(found[0]), str(found[1]), *found[2]])


class Drawn(Asked):
    def row(self, chance, width):
        """A row that changes something, of so many places and mostly so that it can stand."""
        word = chance.choice(["copy", "copy", "copy", "drop", "elder", "elder", "free"])
        name = letters(chance.randrange(9))
        place = chance.randrange(width + 1)
        if word == "copy":
            count = chance.choice([width] * 9 + [width + 1])
            return f"copy {name} " + ("".join(chance.choice("0001") for step in range(count)) or "-")
        return {"drop": f"drop {name}", "elder": f"elder {place} {chance.randrange(2)}", "free": f"free {place}"}[word]

    def test_rows_at_random(self):
        chance = random.Random(503)
        found = {}
        for turn in range(80):
            desk = Desk()
            kept = Kept()
            width = chance.randrange(5)
            for step in range(30):
                row = self.row(chance, width)
                refusal = kept.refusal(row.split(" "))
                found[refusal] = found.get(refusal, 0) + 1
                if refusal is None:
                    self.answer(desk, row, "ok")
                    kept.change(row.split(" "))
                else:
                    self.assertRaises(refusal, desk.say, row)
                for asking in ASKING + ["mixed " + letters(number) for number in range(9)]:
                    wanted = kept.answer(asking)
                    self.assertEqual(told(asking, desk), wanted)
                    kind = wanted[0] if type(wanted) is tuple else "told"
                    found[kind] = found.get(kind, 0) + 1
        for kind in [None, Twice, NoTable, NoName, NoPlace, "told", "NoTable", "NoName", "Clash", "Torn"]:
            self.assertGreater(found[kind], 50, kind)

    def test_whole_tables(self):
        chance = random.Random(509)
        for copies, places in [(1, 1), (7, 5), (12, 12), (40, 60), (40, 60)]:
            for make in [grown_at_random, at_random]:
                table = make(chance, copies, places)
                kept = Kept()
                kept.copies = table
                kept.tellings = tellings_of(chance, table[0][1], chance.randrange(places + 1))
                desk = desk_of(*rows_of(table, kept.tellings))
                for asking in ASKING + ["mixed " + name for name, readings in table[:5]]:
                    self.assertEqual(told(asking, desk), kept.answer(asking))

    def test_the_most_that_can_be_answered(self):
        desk = desk_of(*rows_of([(letters(number), (0,) * 60) for number in range(40)]))
        rows = desk.say("mixed aa").split("; ")
        self.assertEqual(len(rows), 59 * 39 * 38)
        self.assertEqual((rows[0], rows[-1]), ("1 ab ac", f"59 {letters(39)} {letters(38)}"))


if __name__ == "__main__":
    unittest.main()

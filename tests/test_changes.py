"""Point 10: the fewest changes of one place along a frame, with as many ways that share no branch."""

import itertools
import random
import unittest

from copykin.changes import fewest
from copykin.errors import KinError, NoFrame
from copykin.frames import frame_list
from tests.things import (
    NO_NAMES, NO_READINGS, Thing, a_comb, a_frame_at_random, a_star, a_way, frozen, letters, no_frames, others,
)


def all_frames(names):
    """All frames of these names."""
    pairs = list(itertools.combinations(names, 2))
    for frame in itertools.combinations(pairs, len(names) - 1):
        try:
            frame_list(list(frame))
        except NoFrame:
            continue
        yield list(frame)


def all_reads(names):
    """All dicts from some of these names to readings."""
    for readings in itertools.product([None, 0, 1], repeat=len(names)):
        yield {name: reading for name, reading in zip(names, readings) if reading is not None}


def changes(frame, told):
    return sum(told[one] != told[other] for one, other in frame)


def fewest_of_all(frame, names, read):
    """The fewest changes by trying all dicts."""
    free = [name for name in names if name not in read]
    return min(changes(frame, dict(zip(free, readings), **read))
               for readings in itertools.product([0, 1], repeat=len(free)))


class Held(unittest.TestCase):
    def hold(self, frame, read, alone=None):
        """All that the document says of what is told; told is how many changes there are."""
        answer = fewest(frame, read, alone)
        self.assertIs(type(answer), tuple)
        self.assertEqual([type(part) for part in answer], [dict, list])
        told, ways = answer
        self.assertEqual(sorted(told), frame_list(frame, alone))
        for name, reading in told.items():
            self.assertIs(type(reading), int)
            self.assertIn(reading, [0, 1])
            self.assertEqual(reading, read.get(name, reading))
        self.assertEqual(changes(frame, told), len(ways))
        self.hold_ways(frame, read, ways)
        return len(ways)

    def hold_ways(self, frame, read, ways):
        pairs = {frozenset(pair) for pair in frame}
        used = []
        for way in ways:
            self.assertIs(type(way), list)
            self.assertGreaterEqual(len(way), 2)
            self.assertEqual((read.get(way[0]), read.get(way[-1])), (0, 1))
            steps = [frozenset(pair) for pair in zip(way, way[1:])]
            self.assertLessEqual(set(steps), pairs)
            used += steps
        self.assertEqual(len(used), len(set(used)))


class Fewest(Held):
    def test_one_name_alone(self):
        self.assertEqual(fewest([], {"a": 0}, "a"), ({"a": 0}, []))
        self.assertEqual(fewest([], {"a": 1}, "a"), ({"a": 1}, []))
        self.assertEqual(self.hold([], {}, "a"), 0)
        self.assertEqual(self.hold([], {}, "abcdefgh"), 0)

    def test_nothing_read(self):
        for frame in [[("a", "b")], a_way(80), a_star(80), a_comb(80)]:
            self.assertEqual(self.hold(frame, {}), 0)

    def test_one_name_read(self):
        for frame in [[("a", "b")], a_way(9), a_star(9), a_comb(9)]:
            for name in frame_list(frame):
                for reading in [0, 1]:
                    self.assertEqual(fewest(frame, {name: reading}),
                                     ({other: reading for other in frame_list(frame)}, []))

    def test_all_read_alike(self):
        for frame in [[("a", "b")], a_way(80), a_star(80), a_comb(80)]:
            for reading in [0, 1]:
                read = {name: reading for name in frame_list(frame)}
                self.assertEqual(fewest(frame, read), (read, []))

    def test_all_read(self):
        for frame in [[("a", "b")], a_way(80), a_star(80), a_comb(80)]:
            names = frame_list(frame)
            read = {name: number % 2 for number, name in enumerate(names)}
            self.assertEqual(fewest(frame, read)[0], read)
            self.assertEqual(self.hold(frame, read), changes(frame, read))
            self.assertEqual(sorted(sorted(way) for way in fewest(frame, read)[1]),
                             sorted(sorted(pair) for pair in frame if read[pair[0]] != read[pair[1]]))

    def test_one_branch(self):
        self.assertEqual(fewest([("a", "b")], {"a": 0, "b": 1}), ({"a": 0, "b": 1}, [["a", "b"]]))
        self.assertEqual(fewest([("a", "b")], {"a": 1, "b": 0}), ({"a": 1, "b": 0}, [["b", "a"]]))
        self.assertEqual(fewest([("b", "a")], {"b": 1, "a": 0}), ({"a": 0, "b": 1}, [["a", "b"]]))

    def test_from_one_end_of_a_way_to_the_other(self):
        frame = a_way(80)
        names = frame_list(frame)
        self.assertEqual(self.hold(frame, {names[0]: 0, names[-1]: 1}), 1)
        self.assertEqual(fewest(frame, {names[0]: 0, names[-1]: 1})[1], [names])
        self.assertEqual(fewest(frame, {names[0]: 1, names[-1]: 0})[1], [names[::-1]])

    def test_names_read_amid_others(self):
        names = frame_list(a_way(4))
        for readings, wanted in [("0.1.0", 2), ("01010", 4), ("0.0.1", 1), ("0...0", 0), (".010.", 2), ("1.0.1", 2),
                                 ("1...0", 1), ("0.1..", 1), ("..1.0", 1), ("00.11", 1), ("0110.", 2)]:
            read = {name: int(sign) for name, sign in zip(names, readings) if sign != "."}
            self.assertEqual(self.hold(a_way(4), read), wanted, readings)

    def test_stars(self):
        # At an unread name as many ways are joined as there are of both; a read one ends each that comes against it.
        for zeros, ones in itertools.product(range(6), repeat=2):
            frame = [("hub", letters(number)) for number in range(zeros + ones + 1)]
            read = {letters(number): int(number >= zeros) for number in range(zeros + ones)}
            self.assertEqual(self.hold(frame, read), min(zeros, ones))
            self.assertEqual(self.hold(frame, dict(read, hub=0)), ones)
            self.assertEqual(self.hold(frame, dict(read, hub=1)), zeros)

    def test_two_stars(self):
        # What is left over at both hubs is joined along the one branch between them.
        frame = [("left", "right")] + [("left", letters(number)) for number in range(5)] + [
            (letters(number), "right") for number in range(5, 10)]
        for readings in itertools.product([0, 1], repeat=10):
            read = {letters(number): reading for number, reading in enumerate(readings)}
            left = sum(readings[:5])
            right = sum(readings[5:])
            wanted = min(left + right, 10 - left - right, left + 5 - right + 1, 5 - left + right + 1)
            self.assertEqual(self.hold(frame, read), wanted)

    def test_no_fewer_by_trying_all_dicts(self):
        for count in range(2, 6):
            names = [letters(number) for number in range(count)]
            for frame in all_frames(names):
                for read in all_reads(names):
                    if count < 5 or len(read) in [3, 4]:
                        self.assertEqual(self.hold(frame, read), fewest_of_all(frame, names, read))

    def test_small_frames_at_random(self):
        chance = random.Random(47)
        for turn in range(300):
            frame = a_frame_at_random(chance, chance.randrange(5, 10))
            names = frame_list(frame)
            read = {name: chance.randrange(2) for name in chance.sample(names, chance.randrange(3, len(names) + 1))}
            self.assertEqual(self.hold(frame, read), fewest_of_all(frame, names, read))

    def test_large_frames_at_random(self):
        # As many ways as changes: no fewer would do, as each way has one change at least.
        chance = random.Random(53)
        found = []
        for turn in range(300):
            frame = a_frame_at_random(chance, chance.randrange(60, 81))
            names = frame_list(frame)
            read = {name: chance.randrange(2) for name in chance.sample(names, chance.randrange(len(names) + 1))}
            found.append(self.hold(frame, read))
        self.assertGreater(max(found), 20)

    def test_large_combs_and_stars(self):
        chance = random.Random(59)
        for frame in [a_way(80), a_star(80), a_comb(80)]:
            names = frame_list(frame)
            for turn in range(60):
                read = {name: chance.randrange(2) for name in chance.sample(names, chance.randrange(len(names) + 1))}
                self.hold(frame, read)

    def test_by_their_names(self):
        self.assertEqual(fewest(frame=[("a", "b")], read={"a": 1}), ({"a": 1, "b": 1}, []))
        self.assertEqual(fewest(frame=[], read={"a": 1}, alone="a"), ({"a": 1}, []))


class Own(Held):
    def test_what_is_told_and_changed_changes_nothing(self):
        frame = a_comb(20)
        names = frame_list(frame)
        read = {name: number % 2 for number, name in enumerate(names) if number % 3}
        before = (frozen(frame), frozen(read))
        told, ways = fewest(frame, read)
        wanted = frozen(list(fewest(frame, read)))
        told[names[0]] = 5
        told["x"] = 0
        for way in ways:
            way.append("x")
            way.reverse()
        ways.clear()
        self.assertEqual(frozen(list(fewest(frame, read))), wanted)
        self.assertEqual((frozen(frame), frozen(read)), before)
        self.hold(frame, read)

    def test_no_way_is_another_one(self):
        for frame in [a_star(9), a_comb(20)]:
            read = {name: number % 2 for number, name in enumerate(frame_list(frame))}
            ways = fewest(frame, read)[1]
            self.assertEqual(len({id(way) for way in ways}), len(ways))

    def test_the_told_dict_is_not_the_one_that_is_read(self):
        read = {"a": 0, "b": 1}
        told, ways = fewest([("a", "b")], read)
        self.assertIsNot(told, read)
        read["a"] = 1
        self.assertEqual((told, ways), ({"a": 0, "b": 1}, [["a", "b"]]))
        self.assertEqual(fewest([("a", "b")], read), ({"a": 1, "b": 1}, []))


class Refusals(unittest.TestCase):
    def test_what_is_no_frame(self):
        for number, (frame, alone) in enumerate(no_frames()):
            with self.subTest(number=number):
                for read in [{}, {"a": 0}, None, Thing(), []]:
                    self.assertRaises(NoFrame, fewest, frame, read, alone)

    def test_no_branches_and_no_name(self):
        self.assertRaises(NoFrame, fewest, [], {})
        self.assertRaises(NoFrame, fewest, [], {"a": 0})

    def test_what_is_read_is_no_dict(self):
        for read in others(dict) + [[("a", 0)], [("a", 0), ("b", 1)], (("a", 0),), "a", ["a"]]:
            self.assertRaises(NoFrame, fewest, [("a", "b")], read)
            self.assertRaises(NoFrame, fewest, [], read, "a")

    def test_a_name_that_the_frame_has_not(self):
        for name in ["c", "aa", "abcdefgh", "z"]:
            for more in [{}, {"a": 0}, {"a": 0, "b": 1}]:
                self.assertRaises(NoFrame, fewest, [("a", "b")], dict({name: 0}, **more))
                self.assertRaises(NoFrame, fewest, [("a", "b")], dict(more, **{name: 1}))
        self.assertRaises(NoFrame, fewest, [], {"b": 0}, "a")
        self.assertRaises(NoFrame, fewest, [], {"a": 0, "b": 0}, "a")

    def test_what_is_no_name(self):
        class Odd:
            """A key that can't be compared."""

            def __hash__(self):
                return hash("a")

            def __eq__(self, other):
                raise RuntimeError("compared")

        for name in NO_NAMES + [Odd(), ("a", "b"), 0, None, True]:
            try:
                hash(name)
            except TypeError:
                continue
            read = {}
            read[name] = 0
            self.assertRaises(NoFrame, fewest, [("a", "b")], read)
            self.assertRaises(NoFrame, fewest, [], read, "a")

    def test_what_is_no_reading(self):
        for reading in NO_READINGS + [2, True, False, "0", "1", None, 0.0, 1.0, (0,), [0]]:
            for read in [{"a": reading}, {"b": reading}, {"a": 0, "b": reading}, {"b": reading, "a": 1}]:
                self.assertRaises(NoFrame, fewest, [("a", "b")], read)
            self.assertRaises(NoFrame, fewest, [], {"a": reading}, "a")

    def test_what_is_refused_stays_as_it_is(self):
        frame = [("a", "b")]
        for read in [{"a": 2}, {"c": 0}, {"a": 0, 0: "a"}]:
            before = (frozen(frame), frozen(read))
            with self.assertRaises(NoFrame) as caught:
                fewest(frame, read)
            self.assertIsInstance(caught.exception, KinError)
            self.assertEqual((frozen(frame), frozen(read)), before)
        self.assertEqual(fewest(frame, {"b": 1}), ({"a": 1, "b": 1}, []))


if __name__ == "__main__":
    unittest.main()

"""Point 10: frames and their names."""

import itertools
import random
import unittest

from copykin.errors import KinError, NoFrame
from copykin.frames import frame_list
from tests.things import (
    NO_NAMES, a_comb, a_frame_at_random, a_star, a_way, endless, frozen, letters, no_frames, shuffled,
)


def hangs_in_one_way(pairs):
    """Whether these branches make a frame, in another way: each joins two parts, and one part is left."""
    parts = [{name} for name in {name for pair in pairs for name in pair}]
    for one, other in pairs:
        both = [part for part in parts if part & {one, other}]
        if len(both) != 2:
            return False
        parts = [part for part in parts if part not in both] + [both[0] | both[1]]
    return len(parts) == 1


class Frames(unittest.TestCase):
    def test_no_branches_and_one_name(self):
        for name in ["a", "z", "abcdefgh", "zzzzzzzz"]:
            self.assertEqual(frame_list([], name), [name])

    def test_one_branch(self):
        self.assertEqual(frame_list([("a", "b")]), ["a", "b"])
        self.assertEqual(frame_list([("b", "a")]), ["a", "b"])
        self.assertEqual(frame_list([("abcdefgh", "a")]), ["a", "abcdefgh"])

    def test_many_branches(self):
        for count in [2, 3, 10, 79, 80]:
            self.assertEqual(frame_list(a_way(count)), [letters(number) for number in range(count + 1)])
            self.assertEqual(frame_list(a_star(count)), [letters(number) for number in range(count + 1)])
            names = {name for pair in a_comb(count) for name in pair}
            self.assertEqual(frame_list(a_comb(count)), sorted(names))
            self.assertEqual(len(names), count + 1)

    def test_mixed_of_a_way_and_a_star(self):
        frame = [("hub", "x"), ("c", "b"), ("hub", "y"), ("b", "hub"), ("hub", "z"), ("c", "d")]
        self.assertEqual(frame_list(frame), ["b", "c", "d", "hub", "x", "y", "z"])

    def test_any_order_and_either_way_about(self):
        frame = [("a", "b"), ("b", "c"), ("b", "d"), ("d", "e")]
        for order in itertools.permutations(frame):
            for turns in itertools.product([1, -1], repeat=4):
                turned = [pair[::turn] for pair, turn in zip(order, turns)]
                self.assertEqual(frame_list(turned), ["a", "b", "c", "d", "e"])

    def test_at_random(self):
        chance = random.Random(41)
        for turn in range(100):
            frame = a_frame_at_random(chance, chance.randrange(1, 81))
            self.assertEqual(frame_list(frame), sorted({name for pair in frame for name in pair}))

    def test_none_told_beside_it(self):
        self.assertEqual(frame_list([("a", "b")], None), ["a", "b"])

    def test_by_their_names(self):
        self.assertEqual(frame_list(frame=[], alone="a"), ["a"])
        self.assertEqual(frame_list(frame=[("a", "b")], alone=None), ["a", "b"])

    def test_a_new_list(self):
        frame = [("b", "a"), ("c", "b")]
        before = frozen(frame)
        told = frame_list(frame)
        self.assertIs(type(told), list)
        told.append("x")
        told.reverse()
        self.assertEqual(frame_list(frame), ["a", "b", "c"])
        self.assertEqual(frozen(frame), before)
        told = frame_list([], "a")
        told.clear()
        self.assertEqual(frame_list([], "a"), ["a"])

    def test_what_is_handed_in_is_not_kept(self):
        frame = [("b", "a"), ("c", "b")]
        told = frame_list(frame)
        frame.append(("c", "d"))
        self.assertEqual(told, ["a", "b", "c"])
        self.assertEqual(frame_list(frame), ["a", "b", "c", "d"])
        frame.clear()
        self.assertRaises(NoFrame, frame_list, frame)


class Refusals(unittest.TestCase):
    def test_what_is_no_frame(self):
        for number, (frame, alone) in enumerate(no_frames()):
            with self.subTest(number=number):
                self.assertRaises(NoFrame, frame_list, frame, alone)

    def test_no_branches_and_no_name_beside_them(self):
        self.assertRaises(NoFrame, frame_list, [])
        self.assertRaises(NoFrame, frame_list, [], None)
        for name in NO_NAMES + [["a"], ("a",), {"a": 0}]:
            self.assertRaises(NoFrame, frame_list, [], name)

    def test_branches_and_a_name_beside_them(self):
        for alone in ["a", "b", "c", "", "A", 0, False, True, (), [], ("a", "b")]:
            self.assertRaises(NoFrame, frame_list, [("a", "b")], alone)

    def test_one_branch_too_many(self):
        for frame in [a_way(81), a_star(81), a_comb(81), a_way(82), a_star(500)]:
            self.assertRaises(NoFrame, frame_list, frame)

    def test_a_name_that_is_none(self):
        for name in ["abcdefghi", "", "A", "aB", None, True, 0, ("a",)]:
            for frame in [[(name, "b")], [("b", name)], [("a", "b"), ("b", name)], [(name, "b"), ("b", "a")]]:
                self.assertRaises(NoFrame, frame_list, frame)

    def test_a_ring_of_any_length(self):
        for count in range(2, 80):
            ring = a_way(count) + [(letters(count), letters(0))]
            self.assertRaises(NoFrame, frame_list, ring)
            # One name hangs on it, another part lies apart: as many branches as a frame of these names would have.
            self.assertRaises(NoFrame, frame_list, ring[:-1] + [(letters(count), letters(1)), ("y", "z")])

    def test_all_small_lists_of_branches(self):
        pairs = list(itertools.product("abcd", repeat=2))
        good = 0
        for count in range(1, 5):
            for frame in itertools.product(pairs, repeat=count):
                names = sorted({name for pair in frame for name in pair})
                if hangs_in_one_way(frame):
                    good += 1
                    self.assertEqual(frame_list(list(frame)), names)
                else:
                    with self.assertRaises(NoFrame):
                        frame_list(list(frame))
        # 12 of one branch; of two, 12 shapes, 2 orders, 4 turns; of three, 16 trees, 6 orders, 8 turns.
        self.assertEqual(good, 12 + 12 * 2 * 4 + 16 * 6 * 8)

    def test_a_frame_that_is_spoiled(self):
        chance = random.Random(43)
        for turn in range(200):
            frame = a_frame_at_random(chance, chance.randrange(2, 79))
            names = frame_list(frame)
            one, other = chance.sample(names, 2)
            self.assertRaises(NoFrame, frame_list, shuffled(chance, frame + [(one, other)]))
            self.assertRaises(NoFrame, frame_list, shuffled(chance, frame + [(one, one)]))
            without = chance.choice(frame)
            rest = [pair for pair in frame if pair != without]
            for wrong in [rest + [(one, one)], rest + [rest[0]], rest + [rest[-1][::-1]]]:
                self.assertRaises(NoFrame, frame_list, shuffled(chance, wrong))

    def test_what_is_refused_stays_as_it_is(self):
        for frame in [[("a", "b"), ("b", "a")], [["a", "b"]], [("a", "b", "c")]]:
            before = frozen(frame)
            with self.assertRaises(NoFrame) as caught:
                frame_list(frame)
            self.assertIsInstance(caught.exception, KinError)
            self.assertEqual(frozen(frame), before)
        self.assertRaises(NoFrame, frame_list, endless())


if __name__ == "__main__":
    unittest.main()

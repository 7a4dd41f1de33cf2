import random
import types
import unittest
from itertools import islice, product

from askshanded.errors import BadCount
from askshanded.machines import Pattern, ask_rows
from tests.reference import any_pattern, follows


def rows_by_hand(pattern, length):
    """All rows of pairs of the pattern's steps that follow each other from the present state, in order."""
    pairs = sorted({(ask, way) for _, ask, way in pattern.steps})
    found = []
    for count in range(length + 1):
        for row in product(pairs, repeat=count):
            states = [pattern.now] + [way for _, way in row]
            if all((state, *pair) in pattern.steps for state, pair in zip(states, row)):
                found.append(row)
    return found


class AskRowsTest(unittest.TestCase):
    def setUp(self):
        self.pattern = Pattern(3, [], [(0, "b", 1), (0, "a", 2), (0, "a", 0), (1, "ab", 0), (0, "ab", 1)])

    def test_rows_shorter_ones_first_then_ascending(self):
        self.assertEqual(list(ask_rows(self.pattern, 2)), [
            (),
            (("a", 0),), (("a", 2),), (("ab", 1),), (("b", 1),),
            (("a", 0), ("a", 0)), (("a", 0), ("a", 2)), (("a", 0), ("ab", 1)), (("a", 0), ("b", 1)),
            (("ab", 1), ("ab", 0)), (("b", 1), ("ab", 0)),
        ])

    def test_length_0(self):
        self.assertEqual(list(ask_rows(self.pattern, 0)), [()])

    def test_lengths_1_to_8(self):
        for length in range(1, 6):
            self.assertEqual(list(ask_rows(self.pattern, length)), rows_by_hand(self.pattern, length))
        loop = Pattern(1, [], [(0, "a", 0), (0, "b", 0)])
        rows = list(ask_rows(loop, 8))
        self.assertEqual(rows, sorted(rows, key=lambda row: (len(row), row)))
        self.assertEqual(len(set(rows)), 2 ** 9 - 1)

    def test_from_the_present_state(self):
        self.pattern["b"] = 1
        self.assertEqual(list(ask_rows(self.pattern, 1)), [(), (("ab", 0),)])
        self.assertEqual(list(ask_rows(Pattern(3, [], self.pattern.steps, 2), 8)), [()])
        self.assertEqual(self.pattern.now, 1)

    def test_by_chance(self):
        chance = random.Random(4)
        for _ in range(40):
            pattern = any_pattern(chance, ["a", "ab", "b"], most=3)
            self.assertEqual(list(ask_rows(pattern, 3)), rows_by_hand(pattern, 3))

    def test_parameters_by_name(self):
        self.assertEqual(list(ask_rows(pattern=self.pattern, length=0)), [()])

    def test_bad_count_when_iterated(self):
        for length in (-1, 9, 100):
            rows = ask_rows(self.pattern, length)
            with self.assertRaises(BadCount) as caught:
                next(rows)
            self.assertEqual(caught.exception.count, length)

    def test_it_is_a_generator(self):
        self.assertIsInstance(ask_rows(self.pattern, 1), types.GeneratorType)

    def test_first_rows_of_very_many(self):
        wide = Pattern(1, [], [(0, chr(97 + number % 26) + chr(97 + number // 26), 0) for number in range(600)])
        self.assertEqual(list(islice(ask_rows(wide, 8), 3)), [(), (("aa", 0),), (("ab", 0),)])


class PatternOrderTest(unittest.TestCase):
    def assert_order(self, first, second, there, back):
        self.assertIs(first <= second, there)
        self.assertIs(second <= first, back)
        self.assertEqual((follows(first, second), follows(second, first)), (there, back))

    def test_a_pattern_is_below_itself(self):
        pattern = Pattern(3, [1], [(0, "a", 1), (1, "b", 2), (2, "a", 0), (0, "a", 2)])
        self.assertIs(pattern <= pattern, True)

    def test_fewer_steps(self):
        self.assert_order(Pattern(2, [], [(0, "a", 1)]), Pattern(2, [], [(0, "a", 1), (0, "b", 1)]), True, False)

    def test_fewer_marks(self):
        steps = [(0, "a", 1)]
        self.assert_order(Pattern(2, [1], steps), Pattern(2, [0, 1], steps), True, False)
        self.assert_order(Pattern(2, [0], steps), Pattern(2, [1], steps), False, False)

    def test_nothing_at_all(self):
        self.assert_order(Pattern(1, [], []), Pattern(1, [0], []), True, False)
        self.assert_order(Pattern(1, [], []), Pattern(1, [], []), True, True)

    def test_several_ways_for_one_ask(self):
        chosen_late = Pattern(3, [2], [(0, "a", 1), (1, "b", 2), (1, "c", 2)])
        chosen_early = Pattern(4, [3], [(0, "a", 1), (0, "a", 2), (1, "b", 3), (2, "c", 3)])
        self.assert_order(chosen_early, chosen_late, True, False)

    def test_each_way_of_one_ask_is_followed(self):
        one_way = Pattern(3, [], [(0, "a", 1), (1, "b", 2)])
        two_ways = Pattern(3, [], [(0, "a", 1), (0, "a", 2), (1, "b", 2)])
        self.assert_order(one_way, two_ways, True, True)
        marked = Pattern(3, [2], [(0, "a", 1), (0, "a", 2), (1, "b", 1)])
        self.assert_order(Pattern(2, [], [(0, "a", 1), (1, "b", 1)]), marked, True, False)

    def test_cycles(self):
        loop = Pattern(1, [0], [(0, "a", 0)])
        long_loop = Pattern(3, [0, 1, 2], [(0, "a", 1), (1, "a", 2), (2, "a", 0)])
        self.assert_order(loop, long_loop, True, True)
        gap = Pattern(3, [0, 1], [(0, "a", 1), (1, "a", 2), (2, "a", 0)])
        self.assert_order(gap, loop, True, False)
        end = Pattern(4, [0, 1, 2, 3], [(0, "a", 1), (1, "a", 2), (2, "a", 3)])
        self.assert_order(end, loop, True, False)

    def test_from_other_present_states(self):
        steps = [(0, "a", 1), (1, "b", 2)]
        self.assert_order(Pattern(3, [], steps, 1), Pattern(2, [], [(0, "b", 1)]), True, True)
        self.assert_order(Pattern(3, [], steps, 0), Pattern(2, [], [(0, "b", 1)]), False, False)
        pattern = Pattern(3, [], steps)
        self.assertFalse(Pattern(2, [], [(0, "b", 1)]) <= pattern)
        pattern["a"] = 1
        self.assertTrue(Pattern(2, [], [(0, "b", 1)]) <= pattern)
        self.assertEqual(pattern.now, 1)

    def test_marks_out_of_reach_do_not_count(self):
        self.assert_order(Pattern(2, [1], [(1, "a", 1)]), Pattern(1, [], []), True, True)

    def test_a_mark_behind_many_steps(self):
        chain = [(state, "a", state + 1) for state in range(199)]
        plain, marked = Pattern(200, [], chain), Pattern(200, [199], chain)
        self.assertTrue(plain <= marked)
        self.assertFalse(marked <= plain)

    def test_by_chance(self):
        chance = random.Random(13)
        seen = {True: 0, False: 0}
        for _ in range(1500):
            first, second = any_pattern(chance, ["a", "b"]), any_pattern(chance, ["a", "b"])
            seen[first <= second] += 1
            self.assertIs(first <= second, follows(first, second))
        self.assertGreater(min(seen.values()), 150)

    def test_many_options(self):
        steps = [(state, "a", (7 * state + more) % 200) for state in range(200) for more in range(3)]
        self.assertTrue(Pattern(200, [0], steps) <= Pattern(200, list(range(200)), steps))
        self.assertFalse(Pattern(200, list(range(200)), steps) <= Pattern(200, list(range(1, 200)), steps))

    def test_only_patterns_are_compared(self):
        with self.assertRaises(TypeError):
            Pattern(1, [], []) <= 3


if __name__ == "__main__":
    unittest.main()

import unittest

from askshanded.errors import AsksError, BadMachine, BadState, NoStep, TooLarge
from askshanded.machines import Machine, Pattern, Service

KINDS = (Machine, Service, Pattern)
STEPS = [(1, "mend", 0), (0, "cut", 1), (0, "cut", 0), (1, "mend", 0), (0, "a", 1), (1, "mend", 1), (0, "cut", 1)]
ORDERED = ((0, "a", 1), (0, "cut", 0), (0, "cut", 1), (1, "mend", 0), (1, "mend", 1))


def many_steps(number):
    """So many different steps of a machine with 200 states."""
    return [(count // 3, "abc"[count % 3], 199 - count % 7) for count in range(number)]


class MachinePartsTest(unittest.TestCase):
    def test_parts_are_ascending_and_without_duplicates(self):
        for kind in KINDS:
            machine = kind(3, [2, 0, 2], STEPS, 1)
            self.assertEqual(machine.size, 3)
            self.assertEqual(machine.marks, (0, 2))
            self.assertEqual(machine.steps, ORDERED)
            self.assertEqual(machine.now, 1)
            self.assertIs(type(machine.marks), tuple)
            self.assertIs(type(machine.steps), tuple)

    def test_the_order_of_the_lists_does_not_matter(self):
        for kind in KINDS:
            machine = kind(3, [0, 2], STEPS[::-1])
            self.assertEqual((machine.marks, machine.steps, machine.now), ((0, 2), ORDERED, 0))

    def test_parts_by_name(self):
        for kind in KINDS:
            machine = kind(size=2, marks=[1], steps=[(0, "cut", 1)], now=1)
            self.assertEqual((machine.size, machine.marks, machine.now), (2, (1,), 1))

    def test_kinds(self):
        self.assertTrue(issubclass(Service, Machine))
        self.assertTrue(issubclass(Pattern, Machine))
        self.assertFalse(issubclass(Service, Pattern) or issubclass(Pattern, Service))
        self.assertIn("__init__", vars(Machine))

    def test_methods_are_defined_in_the_class(self):
        for name in ("__iter__", "__getitem__", "__setitem__", "__bool__"):
            self.assertIn(name, vars(Machine))
        self.assertIn("__le__", vars(Pattern))

    def test_iteration_is_over_the_steps(self):
        for kind in KINDS:
            machine = kind(2, [], STEPS)
            self.assertEqual(list(machine), list(ORDERED))
            self.assertEqual(list(machine), list(ORDERED))
            self.assertEqual(list(kind(1, [], [])), [])

    def test_steps_are_ordered_as_triples(self):
        steps = [(10, "b", 2), (2, "b", 10), (2, "b", 9), (2, "ab", 199), (2, "a", 3), (2, "aab", 0), (199, "a", 0),
                 (2, "abcdefgh", 0), (2, "abcdefg", 100), (100, "z", 5), (20, "zz", 5), (20, "z", 6)]
        self.assertEqual(Machine(200, [], steps).steps, tuple(sorted(steps)))

    def test_marks_are_ordered_as_numbers(self):
        self.assertEqual(Machine(200, [100, 20, 3, 199, 0], []).marks, (0, 3, 20, 100, 199))

    def test_passed_lists_are_copied(self):
        marks, steps = [0], [(0, "cut", 1)]
        for kind in KINDS:
            machine = kind(2, marks, steps)
            marks.append(1)
            steps.append((1, "cut", 1))
            self.assertEqual((machine.marks, machine.steps), ((0,), ((0, "cut", 1),)))
            machine["cut"] = 1
            self.assertFalse(machine)
            self.assertEqual(machine["cut"], ())
            marks.pop()
            steps.pop()

    def test_passed_lists_stay(self):
        marks, steps = [1, 0, 1], [(1, "b", 0), (0, "a", 0), (1, "b", 0)]
        Machine(2, marks, steps)
        self.assertEqual((marks, steps), ([1, 0, 1], [(1, "b", 0), (0, "a", 0), (1, "b", 0)]))


class MachineMovesTest(unittest.TestCase):
    def test_items_are_the_ends_in_the_present_state(self):
        for kind in KINDS:
            for now, cut, mend in ((0, (0, 1), ()), (1, (), (0, 1)), (2, (), ())):
                machine = kind(3, [], STEPS, now)
                self.assertEqual((machine["cut"], machine["mend"]), (cut, mend))
                self.assertEqual(machine["nothing"], ())
                self.assertIs(type(machine["cut"]), tuple)

    def test_ends_are_ascending(self):
        self.assertEqual(Machine(200, [], [(0, "a", end) for end in (100, 20, 3)])["a"], (3, 20, 100))

    def test_moves(self):
        for kind in KINDS:
            machine = kind(2, [0], STEPS)
            seen = []
            for ask, end in (("cut", 0), ("cut", 1), ("mend", 1), ("mend", 0), ("a", 1)):
                machine[ask] = end
                seen.append((machine.now, bool(machine)))
            self.assertEqual(seen, [(0, True), (1, False), (1, False), (0, True), (1, False)])

    def test_a_wrong_move_raises_no_step_and_changes_nothing(self):
        for kind in KINDS:
            machine = kind(3, [0], STEPS)
            for ask, end in (("cut", 2), ("a", 0), ("mend", 0), ("nothing", 0), ("cut", -1), ("cut", 3)):
                with self.assertRaises(NoStep) as caught:
                    machine[ask] = end
                self.assertEqual((caught.exception.ask, caught.exception.end), (ask, end))
                self.assertEqual((machine.now, machine["cut"]), (0, (0, 1)))

    def test_truth(self):
        for kind in KINDS:
            self.assertEqual([bool(kind(3, [2, 0], [], now)) for now in range(3)], [True, False, True])
            self.assertIs(bool(kind(1, [], [])), False)


class MachineErrorsTest(unittest.TestCase):
    def assert_refused(self, error, told, *parts):
        for kind in KINDS:
            with self.assertRaises(AsksError) as caught:
                kind(*parts)
            self.assertIs(type(caught.exception), error)
            self.assertEqual(list(vars(caught.exception).values()), [told])

    def test_size(self):
        for size in (0, -1, -200):
            self.assert_refused(BadMachine, "size", size, [], [])
        for size in (201, 1000):
            self.assert_refused(TooLarge, size, size, [], [])
        for size in (1, 200):
            self.assertEqual(Machine(size, [size - 1], [(size - 1, "a", 0)], size - 1).size, size)

    def test_marks(self):
        for mark in (-1, 2, 200):
            self.assert_refused(BadMachine, "mark", 2, [0, mark, 1], [])
        self.assertEqual(Machine(2, [1, 0], []).marks, (0, 1))

    def test_states_and_ends_of_steps(self):
        for state, end in ((-1, 0), (2, 0), (0, -1), (0, 2), (-1, 2)):
            self.assert_refused(BadMachine, "step", 2, [], [(0, "cut", 0), (state, "cut", end), (0, "cut", 1)])
        self.assertEqual(len(Machine(2, [], [(0, "cut", 1), (1, "cut", 0)]).steps), 2)

    def test_asks(self):
        for ask in ("", "abcdefghi", "Cut", "cuT", "cut1", "1", "cu t", " ", "cut ", "c_t", "-", "a.b", "`", "{",
                    "\u00e4", "\u00df", "cut\n"):
            self.assert_refused(BadMachine, "step", 1, [], [(0, "cut", 0), (0, ask, 0)])
        for ask in ("a", "z", "abcdefgh", "zzzzzzzz"):
            self.assertEqual(Machine(1, [], [(0, ask, 0)])[ask], (0,))

    def test_number_of_different_steps(self):
        self.assertEqual(len(Machine(200, [], many_steps(600)).steps), 600)
        self.assertEqual(len(Machine(200, [], many_steps(600) + many_steps(600)).steps), 600)
        self.assert_refused(TooLarge, 601, 200, [], many_steps(600) + [(199, "zz", 199)])
        self.assert_refused(TooLarge, 601, 200, [], (many_steps(600) + [(199, "zz", 199)]) * 2)

    def test_present_state(self):
        for now in (-1, 2, 200):
            self.assert_refused(BadState, now, 2, [], [], now)
        for now in (0, 1):
            self.assertEqual(Machine(2, [], [], now).now, now)

    def test_errors_come_in_their_order(self):
        wrong_steps = [(0, "Cut", 0)]
        too_many = many_steps(600) + [(199, "zz", 199)]
        self.assert_refused(BadMachine, "size", 0, [9], wrong_steps, 9)
        self.assert_refused(TooLarge, 201, 201, [-1], wrong_steps, -1)
        self.assert_refused(BadMachine, "mark", 200, [200], too_many + wrong_steps, 200)
        self.assert_refused(BadMachine, "step", 200, [0], too_many + wrong_steps, 200)
        self.assert_refused(TooLarge, 601, 200, [0], too_many, 200)
        self.assert_refused(BadState, 200, 200, [0], many_steps(600), 200)


if __name__ == "__main__":
    unittest.main()

import random
import unittest

from askshanded.errors import SeveralEnds, TooLarge
from askshanded.lots import Joint, Lot
from askshanded.machines import Machine, Pattern, Service, ask_rows
from tests.reference import any_pattern, any_service, joint_pattern, serves

ASKS = ["a", "b"]


def switch(on, off, now=0):
    """A service that takes `on`, and then `off` before it rests again."""
    return Service(2, [0], [(0, on, 1), (1, off, 0)], now)


def twofold(now=0):
    """A service against single ends, in a state that is reached or not."""
    return Service(2, [0], [(1, "a", 0), (1, "a", 1)], now)


def ring(ask, size):
    """A service that takes one ask again and again, and rests once in so many states."""
    return Service(size, [0], [(state, ask, (state + 1) % size) for state in range(size)])


def named(joint):
    """The steps and the marks of a joint machine with its names instead of its numbers."""
    steps = {(joint.names[state], ask, joint.names[end]) for state, ask, end in joint.steps}
    return steps, {joint.names[mark] for mark in joint.marks}


class JointTest(unittest.TestCase):
    def test_kind_and_present_state(self):
        joint = Joint(Lot(switch("a", "b", 1)))
        self.assertEqual(Joint.__bases__, (Service, Pattern))
        for kind in (Machine, Service, Pattern):
            self.assertIsInstance(joint, kind)
        self.assertEqual((joint.now, joint.names[0]), (0, (1,)))
        self.assertIs(type(joint.names), tuple)
        self.assertEqual(Joint(lot=Lot()).size, 1)

    def test_names_steps_and_marks(self):
        joint = Joint(Lot(switch("a", "b"), switch("a", "c")))
        self.assertEqual(joint.size, 4)
        self.assertEqual(joint.names[0], (0, 0))
        self.assertEqual(sorted(joint.names), [(0, 0), (0, 1), (1, 0), (1, 1)])
        steps, marks = named(joint)
        self.assertEqual(steps, {
            ((0, 0), "a", (1, 0)), ((0, 0), "a", (0, 1)), ((1, 0), "a", (1, 1)), ((0, 1), "a", (1, 1)),
            ((1, 0), "b", (0, 0)), ((1, 1), "b", (0, 1)), ((0, 1), "c", (0, 0)), ((1, 1), "c", (1, 0)),
        })
        self.assertEqual(marks, {(0, 0)})

    def test_only_what_is_reached(self):
        chain = Service(4, [3], [(0, "a", 1), (1, "a", 2), (2, "a", 3)], 2)
        joint = Joint(Lot(chain))
        self.assertEqual(joint.names, ((2,), (3,)))
        self.assertEqual(joint.steps, ((0, "a", 1),))
        self.assertEqual(joint.marks, (1,))

    def test_from_the_present_states(self):
        lot = Lot(switch("a", "b"), Service(2, [1], [(0, "c", 1)]))
        lot.set_states((1, 1))
        joint = Joint(lot)
        self.assertEqual(named(joint), ({((1, 1), "b", (0, 1)), ((0, 1), "a", (1, 1))}, {(0, 1)}))

    def test_as_a_service_and_as_a_pattern(self):
        joint = Joint(Lot(switch("a", "b"), switch("a", "c")))
        self.assertEqual(len(joint["a"]), 2)
        self.assertTrue(joint)
        self.assertEqual(len(list(ask_rows(joint, 1))), 3)
        joint["a"] = joint["a"][0]
        self.assertFalse(joint)
        self.assertTrue(Pattern(3, [2], [(0, "a", 1), (1, "c", 2)]) <= Joint(Lot(switch("a", "b"), switch("a", "c"))))
        self.assertEqual(Lot(joint).states, (joint.now,))

    def test_no_services(self):
        joint = Joint(Lot())
        self.assertEqual((joint.size, joint.marks, joint.steps, joint.names), (1, (0,), (), ((),)))

    def test_a_service_that_is_away(self):
        lot = Lot(switch("a", "b"), switch("c", "d", 1), twofold(1))
        lot.set_states((0, -1, -1))
        joint = Joint(lot)
        self.assertEqual(joint.names[0], (0, -1, -1))
        self.assertEqual(named(joint), (
            {((0, -1, -1), "a", (1, -1, -1)), ((1, -1, -1), "b", (0, -1, -1))}, {(0, -1, -1)}
        ))
        self.assertEqual(lot.states, (0, -1, -1))

    def test_several_ends(self):
        lot = Lot(switch("a", "b"), twofold(), twofold(1))
        for states, number in (((0, 0, 1), 1), ((0, 1, -1), 1), ((0, -1, 0), 2), ((-1, -1, 1), 2)):
            lot.set_states(states)
            with self.assertRaises(SeveralEnds) as caught:
                Joint(lot)
            self.assertEqual(caught.exception.number, number)
            self.assertEqual(lot.states, states)
        lot.set_states((0, -1, -1))
        self.assertEqual(Joint(lot).size, 2)

    def test_several_asks_and_states_are_no_several_ends(self):
        service = Service(2, [0], [(0, "a", 0), (0, "b", 1), (1, "a", 1), (1, "b", 1)])
        self.assertEqual(Joint(Lot(service)).steps, service.steps)

    def test_the_lot_stays_and_the_joint_machine_too(self):
        lot = Lot(switch("a", "b"), switch("c", "d", 1))
        joint = Joint(lot)
        before = joint.names, joint.steps, joint.marks
        joint["a"] = joint["a"][0]
        self.assertEqual((lot.states, lot[0].steps), ((0, 1), switch("a", "b").steps))
        lot.set_states((1, 0))
        lot[0] = Service(1, [], [])
        self.assertEqual((joint.names, joint.steps, joint.marks), before)
        self.assertEqual(Lot(joint)[0].names, joint.names)

    def test_the_largest_joint_machine_and_larger_ones(self):
        joint = Joint(Lot(ring("a", 10), ring("b", 20)))
        self.assertEqual((joint.size, len(joint.steps), len(joint.marks)), (200, 400, 1))
        for lot in (Lot(ring("a", 7), ring("b", 29)), Lot(*[ring("a", 200)] * 5)):
            with self.assertRaises(TooLarge):
                Joint(lot)

    def test_a_joint_machine_of_joint_machines(self):
        inner = Joint(Lot(switch("a", "b")))
        joint = Joint(Lot(inner, switch("c", "d")))
        self.assertEqual(named(joint), named(Joint(Lot(switch("a", "b"), switch("c", "d")))))

    def test_by_chance(self):
        chance = random.Random(15)
        for _ in range(300):
            services = [any_service(chance, ASKS, single=True) for _ in range(chance.randint(0, 3))]
            joint = Joint(Lot(*services))
            whole = joint_pattern(services, tuple(service.now for service in services))
            self.assertTrue(joint <= whole and whole <= joint)
            self.assertEqual(len(set(joint.names)), joint.size)
            self.assertEqual(joint.names[0], tuple(service.now for service in services))
            self.assertEqual({0, *[end for _, _, end in joint.steps]}, set(range(joint.size)))


class LotOrderTest(unittest.TestCase):
    def test_a_lot_is_below_itself(self):
        lot = Lot(switch("a", "b"), switch("a", "c"))
        self.assertIs(lot <= lot, True)

    def test_more_services_serve_more(self):
        few, many = Lot(switch("a", "b")), Lot(switch("a", "b"), switch("c", "d"))
        self.assertIs(few <= many, True)
        self.assertIs(many <= few, False)
        self.assertTrue(Lot() <= few)
        self.assertFalse(few <= Lot())

    def test_the_order_of_the_services_does_not_matter(self):
        first, second = Lot(switch("a", "b"), switch("c", "d")), Lot(switch("c", "d"), switch("a", "b"))
        self.assertTrue(first <= second and second <= first)

    def test_a_service_that_does_not_rest(self):
        resting, restless = Lot(switch("a", "b")), Lot(Service(2, [], [(0, "a", 1), (1, "b", 0)]))
        self.assertFalse(resting <= restless)
        self.assertTrue(restless <= resting)
        self.assertTrue(Lot(switch("a", "b", 1)) <= Lot(Service(2, [0, 1], [(0, "a", 1), (1, "b", 0)], 1)))

    def test_the_dealer_does_not_know_later_asks(self):
        one = Lot(Service(3, [2], [(0, "a", 1), (1, "b", 2), (1, "c", 2)]))
        two = Lot(Service(3, [0, 2], [(0, "a", 1), (1, "b", 2)]), Service(3, [0, 2], [(0, "a", 1), (1, "c", 2)]))
        self.assertFalse(one <= two)
        either = Lot(Service(3, [2], [(0, "a", 1), (1, "b", 2)]))
        self.assertTrue(either <= one)
        self.assertTrue(either <= two)

    def test_all_ends_of_the_second_lot_may_come(self):
        first = Lot(switch("a", "b"))
        wavering = Lot(Service(2, [0], [(0, "a", 0), (0, "a", 1), (1, "b", 0)]))
        ready = Lot(Service(2, [0], [(0, "a", 0), (0, "a", 1), (1, "b", 0), (0, "b", 0)]))
        self.assertFalse(first <= wavering)
        self.assertTrue(first <= ready)

    def test_the_first_service_that_takes_the_ask_need_not_be_the_right_one(self):
        first = Lot(Service(1, [0], [(0, "mend", 0)]))
        stuck = Service(2, [0], [(0, "mend", 1)])
        self.assertFalse(first <= Lot(stuck))
        self.assertTrue(first <= Lot(stuck, Service(1, [0], [(0, "mend", 0)])))

    def test_from_the_present_states(self):
        first, second = Lot(switch("a", "b")), Lot(switch("b", "a", 1))
        self.assertFalse(first <= second)
        first.set_states((1,))
        second.set_states((0,))
        self.assertFalse(first <= second)
        self.assertTrue(Lot(Service(2, [0], [(0, "a", 1), (1, "b", 0)], 1)) <= first)

    def test_services_that_are_away(self):
        first, second = Lot(switch("a", "b"), twofold(1)), Lot(switch("a", "b"), switch("c", "d", 1))
        first.set_states((0, -1))
        self.assertFalse(first <= second)
        second.set_states((0, -1))
        self.assertTrue(first <= second)
        second.set_states((-1, 0))
        self.assertFalse(first <= second)
        first.set_states((-1, -1))
        self.assertTrue(first <= second)
        self.assertEqual((first.states, second.states), ((-1, -1), (-1, 0)))

    def test_several_ends_of_the_first_lot(self):
        lot = Lot(switch("a", "b"), twofold(), twofold())
        for states, number in (((0, 0, 0), 1), ((0, -1, 0), 2)):
            lot.set_states(states)
            with self.assertRaises(SeveralEnds) as caught:
                lot <= Lot()
            self.assertEqual(caught.exception.number, number)
            self.assertEqual(lot.states, states)
        self.assertIs(Lot() <= lot, True)
        self.assertIs(Lot(switch("a", "b")) <= lot, True)

    def test_a_joint_machine_that_is_too_large_for_a_machine(self):
        one, two, three = ring("a", 7), ring("b", 7), ring("c", 7)
        self.assertTrue(Lot(one, two, three) <= Lot(three, one, two))
        self.assertFalse(Lot(one, two, three) <= Lot(one, two, one))

    def test_by_chance(self):
        chance = random.Random(16)
        seen = {True: 0, False: 0}
        for _ in range(1500):
            first = [any_service(chance, ASKS, single=True) for _ in range(chance.randint(0, 2))]
            second = [any_service(chance, ASKS) for _ in range(chance.randint(0, 2))] + first[:chance.randint(0, 2)]
            mine, theirs = Lot(*first), Lot(*second)
            mine.set_states([chance.choice([state, state, -1]) for state in mine.states])
            theirs.set_states([chance.choice([state, state, state, -1]) for state in theirs.states])
            below = mine <= theirs
            seen[below] += 1
            self.assertIs(below, serves(joint_pattern(first, mine.states), second, theirs.states))
            for _ in range(5):
                pattern = any_pattern(chance, ASKS)
                if below and serves(pattern, first, mine.states):
                    self.assertTrue(serves(pattern, second, theirs.states))
        self.assertGreater(min(seen.values()), 300)

    def test_only_lots_are_compared(self):
        with self.assertRaises(TypeError):
            Lot() <= 3


if __name__ == "__main__":
    unittest.main()

import random
import unittest

from askshanded.errors import SeveralEnds
from askshanded.lots import Joint, Lot
from askshanded.machines import Pattern, Service
from askshanded.questions import least_pattern
from tests.reference import any_pattern, any_service, at_rest, joint_pattern, serves, takers
from tests.slow_games import SlowGame

ASKS = ["a", "b"]


def taker(*asks):
    return Service(1, [0], [(0, ask, 0) for ask in asks])


def chain(asks, now=0, marks=None):
    """A service that takes some asks one after another."""
    marks = range(len(asks) + 1) if marks is None else marks
    return Service(len(asks) + 1, marks, [(at, ask, at + 1) for at, ask in enumerate(asks)], now)


def longest_row(pattern, state, above=()):
    """The length of the longest row of steps from a state; an error if there is a cycle."""
    if state in above:
        raise AssertionError("a cycle")
    rows = [longest_row(pattern, way, (*above, state)) for (at, _, way) in pattern.steps if at == state]
    return max([0] + [1 + row for row in rows])


class LeastPatternTest(unittest.TestCase):
    def check(self, first, second):
        """Check a pattern with its names, and return both."""
        services = [[lot.services[number] for number in range(len(lot))] for lot in (first, second)]
        states = first.states, second.states
        pattern, names = least_pattern(first, second)
        self.assertIsInstance(pattern, Pattern)
        self.assertIs(type(names), tuple)
        self.assertEqual((len(names), names[0], pattern.now), (pattern.size, states[0], 0))
        for state, ask, way in pattern.steps:
            self.assertTrue(any(names[way] in afters for afters in takers(services[0], names[state], ask)))
        for mark in pattern.marks:
            self.assertTrue(at_rest(services[0], names[mark]))
        self.assertTrue(serves(pattern, services[0], states[0]))
        self.assertFalse(serves(pattern, services[1], states[1]))
        self.assertEqual((first.states, second.states), states)
        return pattern, names

    def test_none(self):
        self.assertIsNone(least_pattern(Lot(), Lot()))
        self.assertIsNone(least_pattern(Lot(taker("a")), Lot(taker("b"), taker("a"))))
        self.assertIsNone(least_pattern(first=Lot(taker("a"), taker("b")), second=Lot(taker("a", "b"))))

    def test_an_ask_that_is_not_taken(self):
        pattern, names = self.check(Lot(taker("a"), taker("b")), Lot(taker("b")))
        self.assertEqual(longest_row(pattern, 0), 1)
        self.assertEqual(pattern.steps, ((0, "a", 1),))
        self.assertEqual(names, ((0, 0), (0, 0)))

    def test_a_lot_that_does_not_rest(self):
        pattern, names = self.check(Lot(), Lot(chain("a", 0, [1])))
        self.assertEqual((pattern.size, pattern.marks, pattern.steps, names), (1, (0,), (), ((),)))
        pattern, _ = self.check(Lot(chain("ab", 0, [0, 2])), Lot(chain("ab", 0, [0])))
        self.assertEqual((longest_row(pattern, 0), len(pattern.steps)), (2, 2))

    def test_the_dealer_does_not_know_later_asks(self):
        one = Lot(Service(3, [2], [(0, "a", 1), (1, "b", 2), (1, "c", 2)]))
        two = Lot(chain("ab", 0, [0, 2]), chain("ac", 0, [0, 2]))
        pattern, names = self.check(one, two)
        self.assertEqual(longest_row(pattern, 0), 2)
        self.assertEqual({ask for _, ask, _ in pattern.steps}, {"a", "b", "c"})

    def test_a_cycle_is_unrolled(self):
        pattern, names = self.check(Lot(taker("a")), Lot(chain("aaa")))
        self.assertEqual(longest_row(pattern, 0), 4)
        self.assertEqual(names, ((0,),) * 5)

    def test_present_states_and_services_that_are_away(self):
        first, second = Lot(chain("ab", 1), taker("z")), Lot(chain("ba"), taker("b"), chain("b", 1))
        first.set_states((1, -1))
        second.set_states((1, -1, 1))
        pattern, names = self.check(first, second)
        self.assertEqual((pattern.steps, names), (((0, "b", 1),), ((1, -1), (2, -1))))
        second.set_states((0, -1, 1))
        self.assertIsNone(least_pattern(first, second))

    def test_a_large_service_of_the_second_lot_may_be_away(self):
        second = Lot(taker("b"), *[Service(200, [0], [])] * 4)
        second.set_states((0, -1, -1, -1, -1))
        self.check(Lot(taker("a")), second)

    def test_several_ends(self):
        twofold = Service(2, [0], [(1, "a", 0), (1, "a", 1)])
        for lot, number in ((Lot(twofold), 0), (Lot(taker("a"), twofold, twofold), 1)):
            with self.assertRaises(SeveralEnds) as caught:
                least_pattern(lot, Lot())
            self.assertEqual(caught.exception.number, number)
        self.check(Lot(taker("b")), Lot(twofold))

    def test_many_asks_are_not_too_many_steps(self):
        asks = [first + second for first in "abcdefghijkl" for second in "abcdefghijkl"]
        first = Lot(Service(4, range(4), [(at, ask, (at + 1) % 4) for at in range(4) for ask in asks]))
        steps = [(at, ask, min(at + 1, 3)) for at in range(3) for ask in asks]
        second = Lot(Service(4, range(4), steps))
        self.assertEqual(Joint(first).size, 4)
        pattern, _ = self.check(first, second)
        self.assertEqual(longest_row(pattern, 0), 4)
        self.assertLess(len(pattern.steps), 20)

    def test_as_short_as_any(self):
        chance = random.Random(31)
        lengths = {}
        for count in range(1500):
            first = [any_service(chance, ASKS, single=True, most=2) for _ in range(chance.randint(0, 2))]
            second = [any_service(chance, ASKS, most=2) for _ in range(chance.randint(0, 2))]
            if count % 3 == 0 and first:
                second = [first[0]] + second[:1]
            mine, theirs = Lot(*first), Lot(*second)
            mine.set_states([chance.choice([state, state, state, -1]) for state in mine.states])
            theirs.set_states([chance.choice([state, state, state, -1]) for state in theirs.states])
            slow = SlowGame(joint_pattern(first, mine.states), second, theirs.states)
            if mine <= theirs:
                self.assertIsNone(least_pattern(mine, theirs))
                self.assertNotIn(slow.first[0], slow.rounds)
                continue
            pattern, _ = self.check(mine, theirs)
            length = longest_row(pattern, 0)
            self.assertEqual(length, slow.rounds[slow.first[0]])
            lengths[length] = True
            for _ in range(3):
                other = any_pattern(chance, ASKS, 3)
                steps = [step for step in other.steps if step[0] < step[2]]
                other = Pattern(other.size, other.marks, steps)
                if serves(other, first, mine.states) and not serves(other, second, theirs.states):
                    self.assertGreaterEqual(longest_row(other, 0), length)
        self.assertGreater(len(lengths), 3)


if __name__ == "__main__":
    unittest.main()

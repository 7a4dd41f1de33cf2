import random
import unittest
from itertools import combinations

from askshanded import questions
from askshanded.dealing import Table, Tree, settle
from askshanded.errors import BadCount, BadNumber, SeveralEnds
from askshanded.games import Game
from askshanded.lots import Joint, Lot
from askshanded.machines import Pattern, Service
from askshanded.questions import copies, fewest, narrowing, never, serves_without
from tests.reference import any_pattern, any_service, serves
from tests.slow_games import SlowGame, check_tree

ASKS = ["a", "b"]


def taker(*asks):
    return Service(1, [0], [(0, ask, 0) for ask in asks])


def asker(*asks):
    """A pattern that allows some asks for ever."""
    return Pattern(1, [0], [(0, ask, 0) for ask in asks])


def once(ask, now=0):
    """A service that takes one ask, once, and rests."""
    return Service(2, [0, 1], [(0, ask, 1)], now)


def chain(asks, now=0):
    """A pattern that allows some asks one after another, and may be stopped everywhere."""
    return Pattern(len(asks) + 1, range(len(asks) + 1), [(at, ask, at + 1) for at, ask in enumerate(asks)], now)


def whole(machine):
    return machine.size, machine.marks, machine.steps, machine.now


class FewestTest(unittest.TestCase):
    def test_shorter_tuples_first(self):
        lot = Lot(taker("a"), taker("b"), taker("c"), taker("a", "b"))
        numbers, table, trees = fewest(asker("a", "b"), lot)
        self.assertEqual(numbers, (3,))
        self.assertIsInstance(table, Table)
        self.assertEqual([row for row, _ in trees], [()])
        self.assertIs(type(trees), list)

    def test_then_ascending(self):
        lot = Lot(taker("b"), taker("c"), taker("a"), taker("b"))
        numbers, table, trees = fewest(asker("a", "b"), lot)
        self.assertEqual(numbers, (0, 2))
        self.assertEqual([row for row, _ in trees], [(), (0,), (1,), (2,), (3,)])
        self.assertEqual(table[(0, (0, 0), ())], ((("a", 0), (1,)), (("b", 0), (0,))))

    def test_trees_of_shorter_tuples_only(self):
        numbers, _, trees = fewest(asker("a", "b", "c"), Lot(taker("c"), taker("a"), taker("b"), taker("a", "b")))
        self.assertEqual(numbers, (0, 3))
        self.assertEqual([row for row, _ in trees], [(), (0,), (1,), (2,), (3,)])
        self.assertEqual([tree.standing for _, tree in trees], [(0, (), ())] + [(0, (0,), ())] * 4)
        self.assertEqual([tree.depth for _, tree in trees], [1] * 5)

    def test_none_serves(self):
        numbers, table, trees = fewest(asker("a", "z"), Lot(taker("a"), taker("b"), taker("c")))
        self.assertIsNone(numbers)
        self.assertIsNone(table)
        self.assertEqual([row for row, _ in trees],
                         [(), (0,), (1,), (2,), (0, 1), (0, 2), (1, 2), (0, 1, 2)])
        self.assertTrue(all(isinstance(tree, Tree) for _, tree in trees))

    def test_no_service_is_needed(self):
        for lot in (Lot(), Lot(taker("a"))):
            numbers, table, trees = fewest(Pattern(1, [0], []), lot)
            self.assertEqual((numbers, list(table), trees), ((), [(0, (), ())], []))
        numbers, table, trees = fewest(asker("a"), Lot())
        self.assertEqual((numbers, table, [row for row, _ in trees]), (None, None, [()]))

    def test_services_that_are_away(self):
        lot = Lot(taker("a"), taker("a", "b"), taker("b"), taker("a"))
        lot.set_states((0, -1, 0, 0))
        numbers, table, trees = fewest(asker("a", "b"), lot)
        self.assertEqual(numbers, (0, 2))
        self.assertEqual([row for row, _ in trees], [(), (0,), (2,), (3,)])
        self.assertEqual(list(table), [(0, (0, 0), ())])
        lot.set_states((-1, -1, -1, -1))
        self.assertEqual([row for row, _ in fewest(asker("a"), lot)[2]], [()])

    def test_present_states(self):
        lot = Lot(once("a", 1), once("a"), once("b"))
        self.assertEqual(fewest(chain("a"), lot)[0], (1,))
        self.assertEqual(fewest(chain("ab", 1), lot)[0], (2,))
        self.assertEqual(lot.states, (1, 0, 0))

    def test_by_chance(self):
        chance = random.Random(21)
        seen = {}
        for _ in range(300):
            services = [any_service(chance, ASKS, most=2) for _ in range(chance.randint(0, 4))]
            pattern = any_pattern(chance, ASKS[:chance.randint(1, 2)], 3)
            lot = Lot(*services)
            lot.set_states([chance.choice([state, state, state, -1]) for state in lot.states])
            present = [number for number, state in enumerate(lot.states) if state != -1]
            rows = [row for count in range(len(present) + 1) for row in combinations(present, count)]
            parts = {row: ([services[n] for n in row], tuple(lot.states[n] for n in row)) for row in rows}
            serving = [row for row in rows if serves(pattern, *parts[row])]
            numbers, table, trees = questions.fewest(pattern=pattern, lot=lot)
            self.assertEqual(numbers, serving[0] if serving else None)
            shorter = [row for row in rows if not serving or len(row) < len(serving[0])]
            self.assertEqual([row for row, _ in trees], shorter)
            for row, tree in trees:
                check_tree(self, SlowGame(pattern, *parts[row]), tree)
            if serving:
                self.assertEqual({at: table[at] for at in table}, SlowGame(pattern, *parts[serving[0]]).table())
            seen[numbers] = True
        self.assertGreater(len(seen), 6)


class CopiesTest(unittest.TestCase):
    def test_as_few_as_serve(self):
        for asks in range(5):
            count, table, trees = copies(chain("a" * asks), once("a"), most=5)
            self.assertEqual(count, asks)
            self.assertEqual(table.game.first, ((0, (0,) * asks, ()),))
            self.assertEqual([tree.standing for tree in trees], [(0, (0,) * few, ()) for few in range(asks)])
            self.assertEqual([tree.depth for tree in trees], [few + 1 for few in range(asks)])
            self.assertIs(type(trees), list)

    def test_none_serves(self):
        for most in range(6):
            count, table, trees = copies(chain("aaaaaa"), once("a"), most=most)
            self.assertIsNone(count)
            self.assertIsNone(table)
            self.assertEqual([tree.depth for tree in trees], list(range(1, most + 2)))

    def test_a_later_count_does_not_serve(self):
        restless = Service(1, [], [(0, "a", 0)])
        self.assertEqual(copies(Pattern(1, [0], []), restless, most=3)[0], 0)
        self.assertEqual([tree.depth for tree in copies(asker("a"), restless, most=1)[2]], [1, 0])

    def test_errors(self):
        for most in (-1, 6, 50):
            with self.assertRaises(BadCount) as caught:
                copies(chain("a"), once("a"), most=most)
            self.assertEqual(caught.exception.count, most)
        with self.assertRaises(TypeError):
            copies(chain("a"), once("a"), 3)

    def test_present_states_and_what_is_passed(self):
        pattern, service = chain("ab", 1), once("b")
        self.assertEqual(copies(pattern=pattern, service=service, most=2)[0], 1)
        self.assertEqual(copies(pattern, once("b", 1), most=2)[0], None)
        self.assertEqual((whole(pattern), whole(service)), (whole(chain("ab", 1)), whole(once("b"))))


class NeverTest(unittest.TestCase):
    def never(self, pattern, *services, states=None, **counts):
        lot = Lot(*services)
        lot.set_states(states if states is not None else lot.states)
        return never(settle(Game(pattern, lot, **counts)))

    def test_pairs_ascend(self):
        found = self.never(asker("b", "ab", "a"), taker("a", "b"), taker("ab", "b"), taker())
        self.assertEqual(found, [("a", 1), ("a", 2), ("ab", 0), ("ab", 2), ("b", 2)])
        self.assertIs(type(found), list)

    def test_no_services_and_no_asks(self):
        self.assertEqual(self.never(Pattern(1, [0], [])), [])
        self.assertEqual(self.never(Pattern(1, [0], []), taker("a")), [])
        self.assertEqual(self.never(Pattern(2, [0], [(1, "a", 0)])), [])

    def test_asks_that_are_never_handed_over(self):
        self.assertEqual(self.never(Pattern(2, [0], [(0, "b", 0), (1, "a", 0)]), taker("a", "b")), [("a", 0)])

    def test_services_that_are_away(self):
        self.assertEqual(self.never(asker("a"), taker("a"), taker("a"), states=(-1, 0)), [("a", 0)])

    def test_safe_after_a_fall_only(self):
        reserve = Service(2, [0], [(0, "a", 1), (1, "a", 1)])
        self.assertEqual(self.never(asker("a"), taker("a"), reserve), [("a", 1)])
        self.assertEqual(self.never(asker("a"), taker("a"), taker("a"), reserve, falls=1), [("a", 2)])

    def test_taken_but_not_safe(self):
        table = settle(Game(Pattern(2, [0], [(0, "cut", 1), (1, "mend", 0)]), Lot(
            Service(2, [0], [(0, "cut", 0), (0, "cut", 1), (1, "mend", 0)]), taker("mend"))))
        self.assertEqual(never(table=table), [("cut", 1)])

    def test_by_chance(self):
        chance = random.Random(22)
        tables = 0
        for count in range(900):
            services = [any_service(chance, ASKS, most=3) for _ in range(chance.randint(1, 3))]
            pattern, ahead, falls = any_pattern(chance, ASKS, 3), count % 3, count % 2
            outcome = settle(Game(pattern, Lot(*services), ahead=ahead, falls=falls))
            if isinstance(outcome, Table) and pattern.steps:
                slow = SlowGame(pattern, services, [service.now for service in services], ahead, falls)
                used = {
                    (slow.turn(standing, step)[0], number)
                    for standing, rows in slow.table().items() for step, numbers in rows for number in numbers
                }
                pairs = {(ask, number) for _, ask, _ in pattern.steps for number in range(len(services))}
                self.assertEqual(never(outcome), sorted(pairs - used))
                tables += 1
        self.assertGreater(tables, 30)


class ServesWithoutTest(unittest.TestCase):
    def test_with_each_service_away(self):
        lot = Lot(taker("a"), taker("b"), taker("a", "c"))
        for number, serving in enumerate((True, False, True)):
            self.assertIs(serves_without(asker("a", "b"), lot, number), serving)
        self.assertIs(serves_without(pattern=asker("a", "b", "c"), lot=lot, number=2), False)
        self.assertEqual(lot.states, (0, 0, 0))

    def test_already_away(self):
        lot = Lot(taker("a"), taker("b"))
        lot.set_states((0, -1))
        self.assertIs(serves_without(asker("a"), lot, 1), True)
        self.assertIs(serves_without(asker("b"), lot, 1), False)
        self.assertIs(serves_without(asker("a"), lot, 0), False)
        self.assertEqual(lot.states, (0, -1))

    def test_a_service_away_need_not_rest(self):
        lot = Lot(taker("a"), Service(2, [0], [], 1))
        self.assertIs(serves_without(asker("a"), lot, 1), True)
        self.assertIs(serves_without(asker("a"), lot, 0), False)

    def test_present_states(self):
        lot = Lot(once("b"), once("b", 1), taker("a"))
        self.assertIs(serves_without(chain("ab", 1), lot, 2), True)
        self.assertIs(serves_without(chain("ab", 0), lot, 2), False)
        self.assertIs(serves_without(chain("ab", 1), lot, 0), False)

    def test_errors(self):
        for lot, number in ((Lot(), 0), (Lot(taker("a")), 1), (Lot(taker("a")), -1), (Lot(taker("a")), 5)):
            with self.assertRaises(BadNumber) as caught:
                serves_without(asker("a"), lot, number)
            self.assertEqual(caught.exception.number, number)

    def test_by_chance(self):
        chance = random.Random(23)
        seen = {True: 0, False: 0}
        for _ in range(300):
            services = [any_service(chance, ASKS) for _ in range(chance.randint(1, 3))]
            pattern, lot = any_pattern(chance, ASKS, 3), Lot(*services)
            lot.set_states([chance.choice([state, state, state, -1]) for state in lot.states])
            number = chance.randrange(len(services))
            states = lot.states[:number] + (-1,) + lot.states[number + 1:]
            serving = serves(pattern, services, states)
            self.assertIs(serves_without(pattern, lot, number), serving)
            seen[serving] += 1
        self.assertGreater(min(seen.values()), 50)


class NarrowingTest(unittest.TestCase):
    def named(self, pattern, lot):
        """The standings, the steps between them and the marked ones."""
        narrowed, standings = narrowing(pattern, lot)
        self.assertIsInstance(narrowed, Pattern)
        self.assertEqual((narrowed.now, narrowed.size, len(set(standings))), (0, len(standings), len(standings)))
        self.assertEqual(standings[0], (pattern.now, lot.states, ()))
        self.assertIs(type(standings), tuple)
        steps = {(standings[state], ask, standings[way]) for state, ask, way in narrowed.steps}
        return set(standings), steps, {standings[mark] for mark in narrowed.marks}

    def test_standings_steps_and_marks(self):
        lot = Lot(Service(2, [0], [(0, "a", 1), (1, "b", 0)]), taker("a"))
        pattern = Pattern(2, [0, 1], [(0, "a", 1), (1, "b", 0), (1, "c", 0)])
        first, one, other, bad = (0, (0, 0), ()), (1, (1, 0), ()), (1, (0, 0), ()), (0, (1, 0), ())
        standings, steps, marks = self.named(pattern, lot)
        self.assertEqual(standings, {first, one, other})
        self.assertEqual(steps, {(first, "a", one), (first, "a", other), (one, "b", first)})
        self.assertEqual(marks, {first, other})
        self.assertNotIn(bad, standings)

    def test_past_bad_standings(self):
        pattern = Pattern(1, [0], [(0, "a", 0), (0, "b", 0)])
        standings, steps, marks = self.named(pattern, Lot(Service(2, [0], [(0, "a", 1), (1, "b", 0)])))
        self.assertEqual(standings, {(0, (0,), ()), (0, (1,), ())})
        self.assertEqual(len(steps), 2)
        self.assertEqual(marks, {(0, (0,), ())})

    def test_no_services(self):
        self.assertEqual(self.named(asker("a"), Lot()), ({(0, (), ())}, set(), {(0, (), ())}))

    def test_services_that_are_away_and_present_states(self):
        twofold = Service(2, [0], [(1, "a", 0), (1, "a", 1)], 1)
        lot = Lot(once("a"), twofold, once("b", 1))
        lot.set_states((0, -1, 1))
        standings, steps, marks = self.named(chain("baa", 1), lot)
        self.assertEqual(standings, {(1, (0, -1, 1), ()), (2, (1, -1, 1), ())})
        self.assertEqual(len(steps), 1)
        self.assertEqual(lot.states, (0, -1, 1))

    def test_several_ends(self):
        twofold = Service(2, [0], [(1, "a", 0), (1, "a", 1)])
        for lot, number in ((Lot(twofold), 0), (Lot(taker("a"), twofold, twofold), 1)):
            with self.assertRaises(SeveralEnds) as caught:
                narrowing(asker("a"), lot)
            self.assertEqual(caught.exception.number, number)

    def test_a_joint_machine_is_narrowed(self):
        lot = Lot(once("a"), once("b"))
        narrowed, _ = narrowing(pattern=Joint(lot), lot=lot)
        self.assertTrue(narrowed <= Joint(lot) and Joint(lot) <= narrowed)

    def test_by_chance(self):
        chance = random.Random(24)
        below = 0
        for _ in range(400):
            services = [any_service(chance, ASKS, single=True) for _ in range(chance.randint(0, 2))]
            pattern, lot = any_pattern(chance, ASKS, 3), Lot(*services)
            lot.set_states([chance.choice([state, state, state, -1]) for state in lot.states])
            narrowed, standings = narrowing(pattern, lot)
            self.check_standings(SlowGame(pattern, services, lot.states), narrowed, standings)
            self.assertTrue(narrowed <= pattern)
            self.assertTrue(serves(narrowed, services, lot.states))
            for _ in range(5):
                other = any_pattern(chance, ASKS, 3)
                if other <= pattern and serves(other, services, lot.states):
                    self.assertTrue(other <= narrowed)
                    below += 1
        self.assertGreater(below, 100)

    def check_standings(self, slow, narrowed, standings):
        found = {slow.first[0]}
        while True:
            steps = {
                (standing, step[0], after) for standing in found for step in slow.told(standing)
                for ends in slow.turn(standing, step)[1].values() for _, after in ends
            }
            if {after for _, _, after in steps} <= found:
                break
            found |= {after for _, _, after in steps}
        self.assertEqual(set(standings), found)
        self.assertEqual({(standings[a], ask, standings[b]) for a, ask, b in narrowed.steps}, steps)
        marks = {s for s in found if s[0] in slow.pattern.marks and not slow.is_bad(s)}
        self.assertEqual({standings[mark] for mark in narrowed.marks}, marks)


class InterfaceTest(unittest.TestCase):
    def test_functions_are_defined_in_their_file(self):
        for name in ("fewest", "copies", "never", "serves_without", "narrowing", "least_pattern", "exchange"):
            self.assertEqual(getattr(questions, name).__module__, "askshanded.questions")


if __name__ == "__main__":
    unittest.main()

import random
import unittest

from askshanded.dealing import Table, settle
from askshanded.errors import BadCount, BadNumber, BadState
from askshanded.games import Game
from askshanded.lots import Lot
from askshanded.machines import Pattern, Service
from askshanded.questions import exchange
from tests.reference import any_pattern, any_service
from tests.slow_games import SlowGame, put

ASKS = ["a", "b"]


def a_cutter(now=0):
    return Service(2, [0], [(0, "cut", 0), (0, "cut", 1), (1, "mend", 0)], now)


def a_mender():
    return Service(1, [0], [(0, "mend", 0)])


def a_table(**counts):
    return settle(Game(Pattern(2, [0], [(0, "cut", 1), (1, "mend", 0)]), Lot(a_cutter(), a_mender()), **counts))


class ExchangeTest(unittest.TestCase):
    def setUp(self):
        self.table = a_table()
        self.standings = list(self.table)

    def test_the_same_machines_again(self):
        for number, newer, mapping in ((None, self.table.game.pattern, (0, 1)), (0, a_cutter(), (0, 1)),
                                       (1, a_mender(), (0,))):
            good, surely = exchange(self.table, newer, mapping=mapping, number=number)
            self.assertEqual((good, surely), (self.standings, self.standings))
            self.assertIs(type(good), list)
            self.assertIsNot(good, surely)

    def test_a_newer_pattern(self):
        newer = Pattern(3, [0, 2], [(0, "cut", 1), (1, "mend", 0), (2, "mend", 2)], 2)
        self.assertEqual(exchange(self.table, newer, mapping=(0, 1)), (self.standings, self.standings))
        good, surely = exchange(self.table, newer, mapping=(2, 2))
        self.assertEqual(good, [standing for standing in self.standings if standing[1] == (0, 0)])
        self.assertEqual(surely, [])

    def test_a_newer_service(self):
        newer = Service(3, [0, 1], [(0, "cut", 2), (2, "mend", 0), (1, "cut", 1)], 1)
        good, surely = exchange(self.table, newer=newer, mapping=(0, 2), number=0)
        self.assertEqual((good, surely), (self.standings, self.standings))
        good, surely = exchange(self.table, newer, mapping=(0, 1), number=0)
        self.assertEqual(good, [(0, (0, 0), ()), (1, (0, 0), ()), (1, (1, 0), ())])
        good, surely = exchange(self.table, newer, mapping=(2, 2), number=0)
        self.assertEqual((good, surely), ([(1, (0, 0), ()), (1, (1, 0), ())], []))

    def test_number_zero_is_a_service(self):
        with self.assertRaises(BadState):
            exchange(self.table, a_mender(), mapping=(0,), number=0)
        self.assertEqual(exchange(self.table, a_cutter(), mapping=(0, 1), number=0)[0], self.standings)

    def test_surely(self):
        steps = [(0, "a", 1), (1, "a", 2), (2, "b", 2), (0, "b", 3), (3, "b", 3)]
        table = settle(Game(Pattern(4, [0, 1, 2, 3], steps), Lot(Service(1, [0], [(0, "a", 0), (0, "b", 0)]))))
        newer = Pattern(2, [0], [(1, "z", 0)])
        good, surely = exchange(table, newer, mapping=(0, 0, 1, 0))
        self.assertEqual(sorted(good), [(state, (0,), ()) for state in (0, 1, 3)])
        self.assertEqual(surely, [(3, (0,), ())])
        good, surely = exchange(table, newer, mapping=(1, 0, 0, 0))
        self.assertEqual(sorted(good), sorted(surely))
        self.assertEqual(sorted(good), [(state, (0,), ()) for state in (1, 2, 3)])

    def test_only_safe_numbers_lead_on(self):
        trap = Service(3, [0, 2], [(0, "a", 1), (0, "b", 2)])
        table = settle(Game(Pattern(1, [0], [(0, "a", 0)]), Lot(trap, Service(1, [0], [(0, "a", 0)]))))
        self.assertEqual(list(table), [(0, (0, 0), ())])
        newer = Service(3, [0], [], 0)
        self.assertEqual(exchange(table, newer, mapping=(0, 1, 2), number=0), ([(0, (0, 0), ())],) * 2)

    def test_lists_in_the_order_of_the_table(self):
        steps = [(state, ask, (state * factor + 1) % 7) for state in range(7) for ask, factor in (("a", 2), ("b", 3))]
        service = Service(3, range(3), [(at, ask, (at + 1) % 3) for at in range(3) for ask in "ab"])
        table = settle(Game(Pattern(7, [0, 3], steps), Lot(service)))
        good, surely = exchange(table, table.game.pattern, mapping=tuple(range(7)))
        self.assertEqual((good, surely), (list(table), list(table)))
        good, surely = exchange(table, Pattern(2, [], [(1, "z", 0)]), mapping=(1, 0, 0, 1, 0, 0, 0))
        self.assertEqual(good, [standing for standing in table if standing[0] not in (0, 3)])

    def test_services_that_are_away(self):
        lot = Lot(a_cutter(), a_mender(), a_mender())
        lot.set_states((0, -1, 0))
        table = settle(Game(Pattern(2, [0], [(0, "cut", 1), (1, "mend", 0)]), lot))
        self.assertEqual(exchange(table, a_cutter(1), mapping=(0, 1), number=0)[0], list(table))
        with self.assertRaises(BadNumber) as caught:
            exchange(table, a_mender(), mapping=(0,), number=1)
        self.assertEqual(caught.exception.number, 1)

    def test_what_is_passed_stays(self):
        newer = a_cutter(1)
        exchange(self.table, newer, mapping=(0, 1), number=0)
        self.assertEqual((newer.now, list(self.table), self.table.game.first), (1, self.standings, ((0, (0, 0), ()),)))
        again, _ = exchange(self.table, newer, mapping=(0, 1), number=0)
        again.clear()
        self.assertEqual(exchange(self.table, newer, mapping=(0, 1), number=0)[0], self.standings)


class ExchangeErrorsTest(unittest.TestCase):
    def assert_raises(self, error, attribute, worth, table, *parts, **named):
        with self.assertRaises(error) as caught:
            exchange(table, *parts, **named)
        self.assertEqual(getattr(caught.exception, attribute), worth)

    def test_counts(self):
        pattern = Pattern(1, [0], [(0, "mend", 0)])
        for ahead, falls, worth in ((1, 0, 1), (2, 1, 2), (0, 1, 1), (4, 0, 4), (0, 3, 3)):
            table = settle(Game(pattern, Lot(*[a_mender()] * 4), ahead=ahead, falls=falls))
            self.assert_raises(BadCount, "count", worth, table, pattern, mapping=(5,))
            self.assert_raises(BadCount, "count", worth, table, a_mender(), mapping=(), number=9)

    def test_numbers(self):
        for number in (-1, 2, 9):
            self.assert_raises(BadNumber, "number", number, a_table(), a_mender(), mapping=(0, 7), number=number)

    def test_mappings_for_a_pattern(self):
        newer = Pattern(3, [0], [])
        for mapping in ((), (0,), (0, 1, 2), (0, 3), (-1, 0), (0, 200)):
            self.assert_raises(BadState, "state", mapping, a_table(), newer, mapping=mapping)

    def test_mappings_for_a_service(self):
        for mapping in ((), (0,), (0, 1, 0), (0, 2), (-1, 0)):
            self.assert_raises(BadState, "state", mapping, a_table(), a_cutter(), mapping=mapping, number=0)
        for mapping in ((), (1,), (0, 0)):
            self.assert_raises(BadState, "state", mapping, a_table(), a_mender(), mapping=mapping, number=1)

    def test_mapping_and_number_by_name_only(self):
        with self.assertRaises(TypeError):
            exchange(a_table(), a_mender(), (0, 1))


class ExchangeChanceTest(unittest.TestCase):
    def test_by_chance(self):
        chance = random.Random(41)
        kinds = {}
        for _ in range(3000):
            services = [any_service(chance, ASKS, most=3) for _ in range(chance.randint(1, 3))]
            pattern, lot = any_pattern(chance, ASKS, 4), Lot(*services)
            lot.set_states([chance.choice([state] * 5 + [-1]) for state in lot.states])
            table = settle(Game(pattern, lot))
            if isinstance(table, Table) and len(table) > 1:
                present = [number for number, state in enumerate(lot.states) if state != -1]
                number = chance.choice([None, *present])
                newer = any_pattern(chance, ASKS, 4) if number is None else any_service(chance, ASKS, most=3)
                older = pattern if number is None else services[number]
                mapping = tuple(chance.randrange(newer.size) for _ in range(older.size))
                if chance.random() < 0.3:
                    newer, mapping = older, tuple(range(older.size))
                found = exchange(table, newer, mapping=mapping, number=number)
                self.assertEqual(found, self.slow(table, pattern, services, lot.states, newer, mapping, number))
                kinds[number is None, bool(found[1]), len(found[0]) > len(found[1]), len(table) > len(found[0])] = True
        self.assertGreaterEqual(len(kinds), 8)

    def slow(self, table, pattern, services, states, newer, mapping, number):
        """Point 16 word by word."""
        old = SlowGame(pattern, services, states)
        if number is None:
            new = SlowGame(newer, services, states)
        else:
            new = SlowGame(pattern, services[:number] + [newer] + services[number + 1:], states)
        good = []
        for state, row, known in table:
            if number is None:
                behind = (mapping[state], row, known)
            else:
                behind = (state, put(row, number, mapping[row[number]]), known)
            self.assertIn(behind, new.standings)
            if behind not in new.rounds:
                good.append((state, row, known))
        return good, [standing for standing in table if self.reached(old, standing) <= set(good)]

    def reached(self, slow, standing):
        """All standings to which safe numbers lead, in any number of turns."""
        found, waiting = set(), [standing]
        while waiting:
            at = waiting.pop()
            if at not in found:
                found.add(at)
                for step in slow.told(at):
                    takers = slow.turn(at, step)[1]
                    waiting.extend(after for n in slow.safe_numbers(at, step) for _, after in takers[n])
        return found


if __name__ == "__main__":
    unittest.main()

"""The largest games that the document allows: each must be answered in a time that a test can wait for."""

import unittest

from askshanded.dealing import Table, beat, settle, tree_from
from askshanded.games import Game
from askshanded.lots import Lot
from askshanded.machines import Pattern, Service
from askshanded.questions import exchange, fewest, never, serves_without
from tests.slow_games import nodes_of

ASKS = [f"{one}{two}" for one in "abcdefghijklmnopqrstuvwxyz" for two in "abcdefghijklmnopqrstuvwxyz"][:600]


def asker(asks):
    """A pattern with one state, which allows all asks."""
    return Pattern(1, [0], [(0, ask, 0) for ask in asks])


def taker(asks):
    return Service(1, [0], [(0, ask, 0) for ask in asks])


def wheel(size, asks, marks=None, now=0):
    """A service that shares the asks out to its states, and turns on with each."""
    many = len(asks) // size
    steps = [(at, ask, (at + 1) % size) for at in range(size) for ask in asks[at * many:(at + 1) * many]]
    return Service(size, range(size) if marks is None else marks, steps, now)


class LargestTest(unittest.TestCase):
    def test_many_states_of_the_pattern(self):
        steps = [(at, ask, (at * factor + 1) % 200) for at in range(200) for ask, factor in (("a", 3), ("b", 7), ("c", 1))]
        service = Service(100, range(100), [
            (at, ask, (at + more) % 100) for at in range(100) for ask in "abc" for more in (1, 50)
        ])
        game = Game(Pattern(200, range(200), steps), Lot(service))
        table = settle(game)
        self.assertEqual((game.size, len(service.steps)), (20000, 600))
        self.assertGreater(len(table), 19000)
        self.assertEqual({table[standing] for standing in table if standing[0] == 7},
                         {((("a", 22), (0,)), (("b", 50), (0,)), (("c", 8), (0,)))})
        self.assertIsNone(beat(game, table.dealer(4, 0)))
        self.assertTrue(table <= table)
        self.assertEqual(never(table), [])
        good, surely = exchange(table, service, mapping=tuple(range(100)), number=0)
        self.assertEqual(len(surely), len(table))

    def test_many_asks_at_each_of_many_standings(self):
        game = Game(asker(ASKS), Lot(wheel(200, ASKS), wheel(100, ASKS), taker(ASKS), taker(ASKS), taker(ASKS)))
        table = settle(game)
        self.assertEqual((game.size, len(table)), (20000, 20000))
        rows = dict(table[(0, (7, 8, 0, 0, 0), ())])
        self.assertEqual(len(rows), 600)
        self.assertEqual(rows[ASKS[21], 0], (0, 2, 3, 4))
        self.assertEqual(rows[ASKS[48], 0], (1, 2, 3, 4))
        self.assertEqual(never(table), [])

    def test_states_in_which_a_service_does_not_rest(self):
        # The first two may not turn into their last states, where they do not rest.
        lot = Lot(wheel(200, ASKS, range(199), 150), wheel(100, ASKS, range(99), 50), taker(ASKS))
        table = settle(Game(asker(ASKS), lot))
        self.assertEqual(len(table), 49 * 49)
        self.assertEqual(dict(table[(0, (198, 98, 0), ())])[ASKS[594], 0], (2,))
        self.assertEqual(dict(table[(0, (198, 97, 0), ())])[ASKS[582], 0], (1, 2))

    def test_many_pairs_told_ahead(self):
        lot = Lot(wheel(33, ASKS), *[taker(ASKS)] * 4)
        game = Game(asker(ASKS), lot, ahead=1)
        table = settle(game)
        self.assertEqual((game.size, len(table)), (601 * 33, 600 * 33))
        rows = table[(0, (1, 0, 0, 0, 0), ((ASKS[0], 0),))]
        self.assertEqual((len(rows), rows[599]), (600, ((ASKS[599], 0), (1, 2, 3, 4))))

    def test_five_services_at_many_told_pairs(self):
        lot = Lot(*[wheel(2, ASKS, [0]) for _ in range(5)])
        game = Game(asker(ASKS), lot, ahead=1)
        tree = settle(game)
        self.assertEqual((game.size, tree.depth), (601 * 32, 1))
        self.assertEqual(tree_from(game, (0, (0, 0, 0, 0, 0), ((ASKS[3], 0),))).depth, 1)

    def test_two_pairs_told_ahead(self):
        asks = ASKS[:140]
        game = Game(asker(asks), Lot(taker(asks)), ahead=2)
        table = settle(game)
        self.assertEqual((game.size, len(table)), (141 * 141, 140 * 140))
        self.assertEqual(len(table[game.first[-1]]), 140)

    def test_four_pairs_told_ahead(self):
        asks = ASKS[:10]
        game = Game(asker(asks), Lot(taker(asks), taker(asks[:9])), ahead=4)
        table = settle(game)
        self.assertEqual((game.size, len(table), len(game.first)), (11 ** 4, 10 ** 4, 10 ** 4))
        self.assertEqual(never(table), [(asks[9], 1)])
        self.assertIsNone(beat(game, table.dealer(1)))

    def test_services_that_fall_out(self):
        services = [Service(6, range(6), [(at, ask, (at + 1) % 6) for at in range(6) for ask in "ab"]) for _ in range(5)]
        pattern = Pattern(1, [0], [(0, "a", 0), (0, "b", 0)])
        for falls in range(1, 5):
            game = Game(pattern, Lot(*services), falls=falls)
            table = settle(game)
            self.assertEqual(game.size, 7 ** 5)
            self.assertEqual(len(table), [7776, 7776 + 6480, 7776 + 6480 + 2160, 7776 + 6480 + 2160 + 360, 16806][falls])
        self.assertIsNone(beat(game, table.dealer()))
        tree = settle(Game(pattern, Lot(*services), falls=5))
        self.assertEqual((tree.deed, tree.depth, len(nodes_of(tree))), ("fall", 6, 6))

    def test_two_large_services(self):
        turning = Service(141, range(140), [(at, "a", (at + 1) % 141) for at in range(141)])
        other = Service(141, range(140), [(at, "a", (at + 1) % 141) for at in range(141)], 1)
        tree = settle(Game(Pattern(1, [0], [(0, "a", 0)]), Lot(turning, other)))
        self.assertEqual(tree.depth, 139 + 138 + 1)
        self.assertEqual(len(nodes_of(tree)), 140 * 139 + 140 + 139)

    def test_questions(self):
        pattern = asker(ASKS[:20])
        lot = Lot(*[wheel(7, ASKS[:20], range(7)) for _ in range(4)], taker(ASKS[:10]))
        numbers, table, trees = fewest(pattern, lot)
        self.assertEqual((numbers, table, len(trees)), (None, None, 32))
        self.assertFalse(serves_without(pattern, lot, 4))
        self.assertIsInstance(settle(Game(asker(ASKS[:10]), lot)), Table)


if __name__ == "__main__":
    unittest.main()

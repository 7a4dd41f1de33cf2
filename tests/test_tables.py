import gc
import unittest

from askshanded.dealing import Dealer, Table, Tree, beat, settle, tree_from
from askshanded.errors import BadStanding
from askshanded.games import Game
from askshanded.lots import Lot
from askshanded.machines import Pattern, Service
from tests.slow_games import SlowGame, check_tree, nodes_of


def a_cutter(now=0):
    return Service(2, [0], [(0, "cut", 0), (0, "cut", 1), (1, "mend", 0)], now)


def a_mender(now=0):
    return Service(1, [0], [(0, "mend", 0)], now)


def a_pattern():
    return Pattern(2, [0], [(0, "cut", 1), (1, "mend", 0)])


def ring(ask, size, marks, now=0):
    return Service(size, marks, [(state, ask, (state + 1) % size) for state in range(size)], now)


def pattern_ring(ask, size, marks, now=0):
    return Pattern(size, marks, [(state, ask, (state + 1) % size) for state in range(size)], now)


def both(pattern, services, states=None, **counts):
    """A game and the slow one."""
    lot = Lot(*services)
    lot.set_states(states if states is not None else lot.states)
    return Game(pattern, lot, **counts), SlowGame(pattern, services, lot.states, **counts)


class TableTest(unittest.TestCase):
    def setUp(self):
        self.game = Game(a_pattern(), Lot(a_cutter(), a_mender()))
        self.table = settle(self.game)

    def test_the_example(self):
        self.assertEqual(self.table[(1, (1, 0), ())], ((("mend", 0), (0,)),))

    def test_standings(self):
        self.assertIsInstance(self.table, Table)
        self.assertIs(self.table.game, self.game)
        self.assertEqual(len(self.table), 3)
        self.assertEqual(set(self.table), {(0, (0, 0), ()), (1, (0, 0), ()), (1, (1, 0), ())})
        self.assertEqual(list(self.table), list(self.table))
        self.assertEqual(len(list(self.table)), 3)

    def test_membership(self):
        self.assertIs((1, (0, 0), ()) in self.table, True)
        for standing in ((0, (1, 0), ()), (2, (0, 0), ()), (0, (0,), ()), (0, (0, 0), (("cut", 1),)), (0, (-1, 0), ())):
            self.assertIs(standing in self.table, False)
            with self.assertRaises(BadStanding) as caught:
                self.table[standing]
            self.assertEqual(caught.exception.standing, standing)

    def test_safe_standings_that_are_not_reached(self):
        game, slow = both(Pattern(2, [], [(0, "a", 0), (1, "a", 0)]), [Service(2, [], [(0, "a", 0), (1, "a", 1)])])
        table = settle(game)
        self.assertEqual(list(table), [(0, (0,), ())])
        self.assertIsNone(tree_from(game, (1, (1,), ())))
        with self.assertRaises(BadStanding):
            table[(1, (1,), ())]

    def test_rows(self):
        self.assertEqual(self.table[(0, (0, 0), ())], ((("cut", 1), (0,)),))
        self.assertEqual(self.table[(1, (0, 0), ())], ((("mend", 0), (1,)),))
        game = Game(Pattern(1, [0], [(0, "b", 0), (0, "a", 0)]), Lot(
            Service(1, [0], [(0, "a", 0)]), Service(1, [0], [(0, "b", 0)]), Service(1, [0], [(0, "a", 0), (0, "b", 0)])
        ))
        self.assertEqual(settle(game)[game.first[0]], ((("a", 0), (0, 2)), (("b", 0), (1, 2))))

    def test_rows_of_told_pairs(self):
        pattern = Pattern(3, [0, 2], [(0, "cut", 1), (1, "mend", 2)])
        game = Game(pattern, Lot(a_cutter(), a_mender()), ahead=1)
        table = settle(game)
        self.assertEqual(table[game.first[0]], ((("mend", 2), (0,)),))
        self.assertEqual(table[(1, (1, 0), (("mend", 2),))], ((None, (0,)),))
        self.assertEqual(table[(1, (0, 0), (("mend", 2),))], ((None, (1,)),))
        self.assertEqual(table[(2, (0, 0), ())], ())
        self.assertEqual(len(table), 4)

    def test_what_is_told_ahead_helps_the_dealer(self):
        left = Service(3, [0, 2], [(0, "a", 1), (1, "b", 2)])
        right = Service(3, [0, 2], [(0, "a", 1), (1, "c", 2)])
        pattern = Pattern(3, [2], [(0, "a", 1), (1, "b", 2), (1, "c", 2)])
        self.assertIsInstance(settle(Game(pattern, Lot(left, right))), Tree)
        table = settle(Game(pattern, Lot(left, right), ahead=1))
        self.assertIsInstance(table, Table)
        self.assertEqual(table[(0, (0, 0), (("a", 1),))], ((("b", 2), (0,)), (("c", 2), (1,))))

    def test_a_service_that_is_not_needed_may_fall_out(self):
        pattern = Pattern(1, [0], [(0, "mend", 0)])
        table = settle(Game(pattern, Lot(a_mender(), a_mender()), falls=1))
        self.assertEqual(set(table), {(0, states, ()) for states in ((0, 0), (-1, 0), (0, -1))})
        self.assertEqual(table[(0, (0, 0), ())], ((("mend", 0), (0, 1)),))
        self.assertEqual(table[(0, (-1, 0), ())], ((("mend", 0), (1,)),))
        self.assertIsInstance(settle(Game(pattern, Lot(a_mender(), a_mender()), falls=2)), Tree)

    def test_a_service_that_fell_out_need_not_rest(self):
        pattern = Pattern(2, [1], [(0, "a", 1)])
        game = Game(pattern, Lot(Service(2, [1], [(0, "a", 1)]), Service(2, [1], [(0, "a", 1)], 1)), falls=1)
        self.assertEqual(tree_from(game, (1, (0, 1), ())).depth, 0)
        self.assertIsNone(tree_from(game, (1, (-1, 1), ())))

    def test_services_away_from_the_beginning(self):
        game, _ = both(Pattern(1, [0], [(0, "mend", 0)]), [a_mender(), a_cutter(1), a_mender()], (0, -1, 0), falls=1)
        table = settle(game)
        self.assertEqual({states for _, states, _ in table}, {(0, -1, 0), (-1, -1, 0), (0, -1, -1)})
        self.assertEqual(table[(0, (0, -1, 0), ())], ((("mend", 0), (0, 2)),))

    def test_no_service_at_all(self):
        table = settle(Game(Pattern(2, [0, 1], []), Lot(), ahead=3, falls=2))
        self.assertEqual((list(table), table[(0, (), ())]), ([(0, (), ())], ()))
        tree = settle(Game(Pattern(1, [0], [(0, "a", 0)]), Lot()))
        self.assertEqual((tree.deed, tree.step, tree.depth, list(tree)), ("ask", ("a", 0), 1, []))

    def test_a_table_only_if_all_first_standings_are_safe(self):
        pattern = Pattern(4, [], [(0, "a", 1), (0, "a", 2), (1, "b", 3), (2, "c", 3)])
        lot = Lot(Service(1, [0], [(0, "a", 0), (0, "b", 0)]))
        game = Game(pattern, lot, ahead=1)
        tree = settle(game)
        self.assertEqual((tree.standing, tree.depth), ((0, (0,), (("a", 2),)), 2))
        self.assertIsNone(tree_from(game, game.first[0]))

    def test_methods_are_defined_in_the_class(self):
        for name in ("__len__", "__iter__", "__contains__", "__getitem__", "__le__", "dealer"):
            self.assertIn(name, vars(Table))
        self.assertIn("__iter__", vars(Tree))
        for name in ("__init__", "__call__"):
            self.assertIn(name, vars(Dealer))
        for function in (settle, tree_from, beat):
            self.assertEqual(function.__module__, "askshanded.dealing")

    def test_the_game_may_be_settled_again(self):
        again = settle(self.game)
        self.assertEqual(list(again), list(self.table))
        self.assertTrue(again <= self.table and self.table <= again)


class TableOrderTest(unittest.TestCase):
    def table(self, *services, **counts):
        return settle(Game(Pattern(1, [0], [(0, "mend", 0)]), Lot(*services), **counts))

    def test_more_safe_numbers(self):
        idle = Service(1, [0], [])
        one, other, two = self.table(a_mender(), idle), self.table(idle, a_mender()), self.table(a_mender(), a_mender())
        self.assertIs(one <= one, True)
        self.assertIs(one <= two, True)
        self.assertIs(other <= two, True)
        self.assertIs(two <= one, False)
        self.assertIs(one <= other, False)

    def test_more_standings(self):
        few, many = self.table(a_mender(), a_mender()), self.table(a_mender(), a_mender(), falls=1)
        self.assertIs(few <= many, True)
        self.assertIs(many <= few, False)

    def test_more_steps(self):
        service = Service(1, [0], [(0, "a", 0), (0, "b", 0)])
        one = settle(Game(Pattern(1, [0], [(0, "a", 0)]), Lot(service)))
        two = settle(Game(Pattern(1, [0], [(0, "a", 0), (0, "b", 0)]), Lot(service)))
        self.assertIs(one <= two, True)
        self.assertIs(two <= one, False)

    def test_only_tables_are_compared(self):
        with self.assertRaises(TypeError):
            self.table(a_mender()) <= 3
        self.assertIs(self.table(a_mender()).__le__([]), NotImplemented)


class TreeTest(unittest.TestCase):
    def test_stop(self):
        game = Game(Pattern(1, [0], [(0, "mend", 0)]), Lot(a_cutter(1)))
        tree = settle(game)
        self.assertEqual((tree.standing, tree.deed, tree.step, tree.depth), ((0, (1,), ()), "stop", None, 0))
        self.assertEqual((list(tree), list(tree)), ([], []))

    def test_a_bad_standing_with_told_pairs(self):
        game = Game(Pattern(2, [0], [(0, "mend", 1)]), Lot(a_cutter(1)), ahead=2)
        tree = tree_from(game, (0, (1,), (("mend", 1),)))
        self.assertEqual((tree.deed, tree.depth), ("stop", 0))

    def test_ask_that_no_service_takes(self):
        tree = settle(Game(Pattern(2, [], [(0, "a", 1)]), Lot(a_cutter(), a_mender())))
        self.assertEqual((tree.deed, tree.step, tree.depth, list(tree)), ("ask", ("a", 1), 1, []))

    def test_ask_with_branches(self):
        game, slow = both(a_pattern(), [a_cutter(), Service(2, [0], [(0, "cut", 1)])])
        tree = settle(game)
        self.assertEqual((tree.standing, tree.deed, tree.step, tree.depth), ((0, (0, 0), ()), "ask", ("cut", 1), 2))
        numbers = [number for number, _, _ in tree]
        self.assertEqual(numbers, [0, 1])
        check_tree(self, slow, tree)

    def test_none_is_told(self):
        game, slow = both(Pattern(2, [1], [(0, "a", 1)]), [Service(2, [0], [(0, "a", 1)])], ahead=1)
        tree = settle(game)
        self.assertEqual((tree.standing, tree.deed, tree.step), ((0, (0,), (("a", 1),)), "ask", None))
        ((number, end, stop),) = tree
        self.assertEqual((number, end, stop.standing, stop.deed), (0, 1, (1, (1,), ()), "stop"))
        check_tree(self, slow, tree)

    def test_fall(self):
        game, slow = both(a_pattern(), [a_cutter(), a_mender()], falls=1)
        tree = settle(game)
        self.assertEqual((tree.deed, tree.step, tree.depth), ("fall", None, 2))
        ((number, end, branch),) = tree
        self.assertEqual((number, end, branch.standing, branch.deed), (0, -1, (0, (-1, 0), ()), "ask"))
        check_tree(self, slow, tree)

    def test_services_away_from_the_beginning(self):
        game, slow = both(Pattern(1, [0], [(0, "cut", 0)]), [a_cutter(), a_cutter(), a_mender()], (0, -1, 0), falls=1)
        tree = settle(game)
        check_tree(self, slow, tree)
        self.assertTrue(all(node.standing[1][1] == -1 for node in nodes_of(tree)))

    def test_the_least_round_of_the_first_standings(self):
        steps = [(0, "a", 1), (0, "a", 2), (0, "a", 3), (1, "a", 4), (4, "a", 2), (2, "z", 5), (3, "a", 5)]
        game, slow = both(Pattern(6, [], steps), [Service(1, [0], [(0, "a", 0)])], ahead=1)
        self.assertEqual(sorted(slow.rounds.get(s, -1) for s in slow.first), [-1, 2, 4])
        tree = settle(game)
        self.assertEqual((tree.standing, tree.depth), ((0, (0,), (("a", 2),)), 2))

    def test_tree_from_a_safe_standing_and_from_none(self):
        game = Game(a_pattern(), Lot(a_cutter(), a_mender()))
        self.assertIsNone(tree_from(game, (0, (0, 0), ())))
        self.assertEqual(tree_from(game, standing=(0, (1, 0), ())).depth, 0)
        for standing in ((2, (0, 0), ()), (0, (0, -1), ()), (0, (2, 0), ()), (0, (0,), ()), (0, (0, 0), (("cut", 1),))):
            with self.assertRaises(BadStanding) as caught:
                tree_from(game, standing)
            self.assertEqual(caught.exception.standing, standing)

    def test_equal_standings_are_one_node(self):
        services = [Service(4, [0], [(0, "a", 1), (1, "a", 2), (2, "a", 3)]) for _ in range(3)]
        game, slow = both(Pattern(1, [], [(0, "a", 0)]), services)
        tree = settle(game)
        self.assertEqual((tree.depth, len(nodes_of(tree))), (10, 64))
        check_tree(self, slow, tree)

    def test_rings_of_sixty_states(self):
        game, slow = both(pattern_ring("a", 60, range(60)), [ring("a", 60, range(59))])
        tree = settle(game)
        self.assertEqual(tree.depth, 59)
        check_tree(self, slow, tree)
        game = Game(pattern_ring("a", 60, [0]), Lot(ring("a", 60, range(59), 59)))
        self.assertEqual(settle(game).depth, 0)
        self.assertIsNone(tree_from(game, (0, (0,), ())))

    def test_rounds_that_are_as_long_as_the_game(self):
        # There is one move at each standing: it comes back to a mark after 60 asks, one state of 59 further on.
        game = Game(pattern_ring("a", 60, [0]), Lot(ring("a", 59, range(58))))
        self.assertEqual(settle(game).depth, 60 * 58)
        for state in range(1, 60):
            self.assertEqual(tree_from(game, (state, (state - 1,), ())).depth, (60 * 58 + 60 - state) % 3540)

    def test_a_deep_tree_can_be_dropped(self):
        game = Game(pattern_ring("a", 199, [0]), Lot(ring("a", 100, range(99), 98)))
        tree = settle(game)
        self.assertEqual(tree.depth, 199 * 99)
        self.assertEqual(len(nodes_of(tree)), tree.depth + 1)
        del tree
        gc.collect()


if __name__ == "__main__":
    unittest.main()

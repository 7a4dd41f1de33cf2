"""Games by chance, compared with a slow reading of the document's words."""

import random
import unittest
from unittest import mock

from askshanded.dealing import Dealer, Table, Tree, beat, hand, settle, tree_from
from askshanded.errors import BadStanding, ChosenWrong, NoStep, Refused
from askshanded.games import Game
from askshanded.lots import Lot
from tests.reference import any_pattern, any_service
from tests.slow_games import SlowGame, check_tree

ASKS = ["a", "b", "ab"]
# The numbers told ahead and the services that may fall out, and how large pattern and services are.
KINDS = [(0, 0, 4, 3), (0, 0, 4, 3), (0, 1, 3, 2), (0, 3, 3, 2), (1, 0, 3, 3), (1, 1, 3, 2), (2, 0, 3, 2), (2, 2, 2, 2),
         (3, 1, 2, 2), (4, 0, 2, 2)]


def friendly(service, chance):
    """A service that takes more asks and rests more often, so that some games are safe."""
    steps = [(state, ask, chance.randrange(service.size)) for state in range(service.size) for ask in ASKS
             if chance.random() < 0.5]
    marks = [state for state in range(service.size) if chance.random() < 0.7]
    return type(service)(service.size, [*service.marks, *marks], [*service.steps, *steps], service.now)


def any_games(seed, number):
    """Games, each with the slow one."""
    chance = random.Random(seed)
    for count in range(number):
        ahead, falls, places, states = KINDS[count % len(KINDS)]
        asks = ASKS[:chance.randint(1, 3)]
        pattern = any_pattern(chance, asks, places)
        if ahead > 2 and len(pattern.steps) > 4:
            pattern = type(pattern)(pattern.size, pattern.marks, list(pattern.steps)[:4], pattern.now)
        services = [any_service(chance, asks, most=states) for _ in range(chance.randint(0, 3))]
        if chance.random() < 0.6:
            services = [friendly(service, chance) for service in services]
        lot = Lot(*services)
        lot.set_states([-1 if chance.random() < 0.1 else service.now for service in services])
        game = Game(pattern, lot, ahead=ahead, falls=falls)
        # Only lots with thousands of tuples of states need several words: so words are short in some games.
        with mock.patch("askshanded.crowds.WORD", chance.choice([2900, 1, 2, 3, 7])):
            yield chance, game, SlowGame(pattern, services, lot.states, ahead, falls)


class ChanceTest(unittest.TestCase):
    def test_size_first_and_told(self):
        for _, game, slow in any_games(6, 300):
            self.assertEqual(game.size, slow.size())
            self.assertEqual(game.first, tuple(sorted(slow.first)))
            for standing in slow.standings:
                self.assertEqual(game.told(standing), slow.told(standing))

    def test_trees_from_each_standing(self):
        depths = {}
        for _, game, slow in any_games(10, 300):
            for standing in slow.standings:
                tree = tree_from(game, standing)
                self.assertEqual(tree is None, standing not in slow.rounds, standing)
                if tree is not None:
                    self.assertIsInstance(tree, Tree)
                    self.assertEqual(tree.standing, standing)
                    check_tree(self, slow, tree)
                    depths[tree.depth] = True
        self.assertGreater(max(depths), 4)

    def test_settle(self):
        seen = {True: 0, False: 0}
        for _, game, slow in any_games(11, 600):
            lost = [slow.rounds[standing] for standing in slow.first if standing in slow.rounds]
            outcome = settle(game)
            seen[not lost] += 1
            self.assertIsInstance(outcome, Tree if lost else Table)
            if lost:
                self.assertIn(outcome.standing, slow.first)
                self.assertEqual(outcome.depth, min(lost))
                check_tree(self, slow, outcome)
            else:
                self.check_table(game, slow, outcome)
        self.assertGreater(min(seen.values()), 100)

    def check_table(self, game, slow, table):
        rows = slow.table()
        self.assertIs(table.game, game)
        self.assertEqual(sorted(table, key=repr), sorted(rows, key=repr))
        self.assertEqual(len(table), len(rows))
        for standing in slow.standings:
            self.assertIs(standing in table, standing in rows)
            if standing in rows:
                self.assertEqual(table[standing], rows[standing])
                self.assertTrue(all(numbers for _, numbers in rows[standing]))
            else:
                with self.assertRaises(BadStanding):
                    table[standing]
        self.assertIsNone(beat(game, table.dealer()))

    def test_dealers(self):
        seen = {True: 0, False: 0}
        for chance, game, slow in any_games(12, 600):
            many = len(slow.services)
            rows = [
                (standing, step, chance.choice([*slow.turn(standing, step)[1], chance.randint(-1, many)]))
                for standing in slow.standings for step in slow.told(standing)
            ]
            outcome = settle(game)
            dealer = Dealer(rows)
            if isinstance(outcome, Table) and chance.random() < 0.5:
                dealer = outcome.dealer(*[chance.randint(-1, many) for _ in range(chance.randint(0, 3))])
                self.assertIsNone(beat(game, dealer))
            length = slow.shortest_failure(dealer)
            found = beat(game, dealer)
            seen[found is None] += 1
            self.assertEqual(found is None, length is None)
            if found is not None:
                self.check_failure(slow, dealer, length, *found)
        self.assertGreater(min(seen.values()), 100)

    def check_failure(self, slow, dealer, length, standing, moves):
        self.assertIn(standing, slow.first)
        self.assertIs(type(moves), list)
        self.assertEqual(len(moves), length)
        for step, number, end in moves:
            self.assertFalse(slow.fails(dealer, standing))
            if end != -1:
                self.assertEqual(dealer(standing, step), number)
            standing = slow.behind(standing, (step, number, end))
            self.assertIsNotNone(standing)
        self.assertTrue(slow.fails(dealer, standing))

    def test_a_number_outside_the_table_can_be_beaten(self):
        wrong = 0
        for chance, game, slow in any_games(14, 1500):
            table = settle(game)
            for standing in table if isinstance(table, Table) else []:
                for step, numbers in table[standing]:
                    for number in set(slow.turn(standing, step)[1]) - set(numbers):
                        rows = [(standing, step, number)]
                        rows += [(other, told, some[0]) for other in table for told, some in table[other]]
                        after = slow.turn(standing, step)[1][number]
                        self.assertTrue(any(tree_from(game, behind) is not None for _, behind in after))
                        wrong += 1
                        self.assertEqual(Dealer(rows)(standing, step), number)
        self.assertGreater(wrong, 100)

    def test_hand(self):
        for chance, game, slow in any_games(15, 200):
            for standing in slow.standings:
                for step in slow.told(standing):
                    ask, takers = slow.turn(standing, step)
                    for number in range(-1, len(slow.services) + 1):
                        self.check_hand(game, standing, step, ask, number, takers.get(number))

    def check_hand(self, game, standing, step, ask, number, ends):
        def dealer(at, told):
            self.assertEqual((at, told), (standing, step))
            return number

        if ends is None:
            with self.assertRaises(Refused) as caught:
                hand(game, dealer, standing, step, 0)
            self.assertEqual((caught.exception.standing, caught.exception.step), (standing, step))
            self.assertIsInstance(caught.exception.__cause__, ChosenWrong)
            self.assertEqual(caught.exception.__cause__.number, number)
            return
        for end in range(-1, 4):
            if end in dict(ends):
                self.assertEqual(hand(game, dealer, standing, step, end), (number, dict(ends)[end]))
            else:
                with self.assertRaises(NoStep) as caught:
                    hand(game, dealer, standing, step, end)
                self.assertEqual((caught.exception.ask, caught.exception.end), (ask, end))


if __name__ == "__main__":
    unittest.main()

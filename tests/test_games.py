import unittest

from askshanded.errors import BadCount, BadStanding, TooLarge
from askshanded.games import Game
from askshanded.lots import Joint, Lot
from askshanded.machines import Pattern, Service
from tests.slow_games import SlowGame


def idle(size, now=0):
    """A service that rests everywhere and takes nothing."""
    return Service(size, range(size), [], now)


def chain(size, marks=()):
    """A pattern that ends after some asks."""
    return Pattern(size, marks, [(state, "a", state + 1) for state in range(size - 1)])


def fork(now=0):
    """A pattern with two ways from its first state, one of which ends earlier."""
    return Pattern(4, [], [(0, "a", 1), (0, "b", 2), (0, "a", 3), (1, "c", 1), (1, "b", 0), (2, "a", 3)], now)


class GameErrorsTest(unittest.TestCase):
    def assert_raises(self, error, attribute, worth, *parts, **numbers):
        with self.assertRaises(error) as caught:
            Game(*parts, **numbers)
        self.assertEqual(getattr(caught.exception, attribute), worth)

    def test_counts(self):
        for ahead in (-1, 5, 100):
            self.assert_raises(BadCount, "count", ahead, chain(2), Lot(), ahead=ahead)
        for falls in (-1, 6, 100):
            self.assert_raises(BadCount, "count", falls, chain(2), Lot(), falls=falls)
        for ahead in range(5):
            for falls in range(6):
                Game(chain(2), Lot(idle(1)), ahead=ahead, falls=falls)

    def test_counts_stand_behind_names_only(self):
        with self.assertRaises(TypeError):
            Game(chain(2), Lot(), 1)

    def test_the_errors_in_their_order(self):
        large = Lot(idle(200), idle(200))
        self.assert_raises(BadCount, "count", 7, chain(2), large, ahead=7, falls=8)
        self.assert_raises(BadCount, "count", 8, chain(2), large, ahead=4, falls=8)
        self.assert_raises(TooLarge, "size", 2 * 201 * 201 * 2 ** 4, chain(2), large, ahead=4, falls=5)

    def test_the_largest_size(self):
        self.assertEqual(Game(chain(200), Lot(idle(100))).size, 20000)
        self.assertEqual(Game(Pattern(1, [], []), Lot(idle(100), idle(200))).size, 20000)
        self.assert_raises(TooLarge, "size", 20100, chain(150), Lot(idle(134)))
        self.assert_raises(TooLarge, "size", 20001, chain(59), Lot(idle(113), idle(3)))
        self.assertEqual(Game(chain(100), Lot(idle(199)), falls=1).size, 20000)
        self.assert_raises(TooLarge, "size", 20001, chain(3), Lot(idle(58), idle(112)), falls=2)
        self.assert_raises(TooLarge, "size", 200 ** 6, Pattern(200, [], []), Lot(*[idle(200)] * 5))


class GameSizeTest(unittest.TestCase):
    def test_without_counts(self):
        self.assertEqual(Game(chain(3), Lot()).size, 3)
        self.assertEqual(Game(chain(3), Lot(idle(2), idle(5))).size, 30)

    def test_ahead(self):
        for ahead in range(5):
            self.assertEqual(Game(fork(), Lot(idle(2)), ahead=ahead).size, 4 * 2 * 4 ** ahead)
            self.assertEqual(Game(Pattern(3, [0], []), Lot(idle(2)), ahead=ahead).size, 6)

    def test_ahead_counts_the_state_with_the_most_steps(self):
        pattern = Pattern(3, [], [(0, "a", 1), (2, "a", 0), (2, "a", 1), (2, "b", 0), (2, "b", 2)])
        self.assertEqual(Game(pattern, Lot(), ahead=2).size, 3 * 5 * 5)

    def test_falls(self):
        self.assertEqual(Game(chain(3), Lot(idle(2), idle(5)), falls=0).size, 30)
        for falls in range(1, 6):
            self.assertEqual(Game(chain(3), Lot(idle(2), idle(5)), falls=falls).size, 3 * 3 * 6)
            self.assertEqual(Game(chain(3), Lot(), falls=falls).size, 3)

    def test_services_that_are_away_count(self):
        lot = Lot(idle(2), idle(5))
        lot.set_states((0, -1))
        self.assertEqual(Game(chain(3), lot).size, 30)
        self.assertEqual(Game(chain(3), lot, ahead=1, falls=2).size, 3 * 3 * 6 * 2)

    def test_a_game_is_larger_than_what_can_happen(self):
        self.assertEqual(Game(Pattern(2, [], []), Lot(idle(3)), ahead=0, falls=5).size, 8)


class FirstTest(unittest.TestCase):
    def test_nothing_is_told_in_advance(self):
        game = Game(fork(1), Lot(idle(2, 1), idle(3, 2)))
        self.assertEqual(game.first, ((1, (1, 2), ()),))
        self.assertIs(type(game.first), tuple)

    def test_rows_ascend_and_may_end_early(self):
        game = Game(fork(), Lot(idle(1)), ahead=2)
        self.assertEqual([known for _, _, known in game.first], [
            (("a", 1), ("b", 0)), (("a", 1), ("c", 1)), (("a", 3),), (("b", 2), ("a", 3)),
        ])
        self.assertEqual({(state, states) for state, states, _ in game.first}, {(0, (0,))})
        self.assertEqual(Game(fork(3), Lot(idle(1)), ahead=4).first, ((3, (0,), ()),))
        self.assertEqual(Game(chain(3), Lot(), ahead=4).first, ((0, (), (("a", 1), ("a", 2))),))

    def test_ascending_by_ask_and_then_by_way(self):
        pattern = Pattern(11, [], [(0, "b", 1), (0, "ab", 10), (0, "ab", 9), (0, "aa", 2), (0, "abc", 0)])
        game = Game(pattern, Lot(), ahead=1)
        self.assertEqual([known[0] for _, _, known in game.first],
                         [("aa", 2), ("ab", 9), ("ab", 10), ("abc", 0), ("b", 1)])

    def test_services_that_are_away(self):
        lot = Lot(idle(2), idle(3, 2))
        lot.set_states((-1, 2))
        self.assertEqual(Game(fork(), lot, falls=2).first, ((0, (-1, 2), ()),))

    def test_first_standings_as_the_words_say(self):
        for ahead in range(4):
            for now in range(4):
                slow = SlowGame(fork(now), [idle(2)], (1,), ahead)
                self.assertEqual(list(Game(fork(now), Lot(idle(2, 1)), ahead=ahead).first), sorted(slow.first))

    def test_the_game_stays_when_pattern_and_lot_move(self):
        pattern, lot = fork(), Lot(Service(2, [0], [(0, "a", 1)]), idle(2))
        game = Game(pattern, lot, ahead=1)
        before = game.first, game.size, game.told(game.first[0])
        pattern["a"] = 3
        lot.set_states((1, -1))
        lot[0] = idle(5)
        lot += idle(3)
        self.assertEqual((game.first, game.size, game.told(game.first[0])), before)

    def test_pattern_and_lot_stay(self):
        pattern, lot = fork(1), Lot(idle(2, 1), idle(2))
        lot.set_states((1, -1))
        Game(pattern, lot, ahead=2, falls=1)
        self.assertEqual((pattern.now, pattern.steps, lot.states, len(lot)), (1, fork().steps, (1, -1), 2))

    def test_a_joint_machine_as_pattern_and_as_service(self):
        joint = Joint(Lot(Service(2, [0], [(0, "a", 1), (1, "b", 0)])))
        game = Game(joint, Lot(joint), ahead=1)
        self.assertEqual((game.size, game.first), (8, ((0, (0,), (("a", 1),)),)))


class ToldTest(unittest.TestCase):
    def test_no_pairs_are_known(self):
        game = Game(fork(), Lot(idle(1)))
        self.assertEqual(game.told((0, (0,), ())), (("a", 1), ("a", 3), ("b", 2)))
        self.assertEqual(game.told((1, (0,), ())), (("b", 0), ("c", 1)))
        self.assertEqual(game.told(standing=(3, (0,), ())), ())

    def test_pairs_are_known(self):
        game = Game(fork(), Lot(idle(1)), ahead=2)
        self.assertEqual(game.told((0, (0,), (("a", 1), ("c", 1)))), (("b", 0), ("c", 1)))
        self.assertEqual(game.told((2, (0,), (("a", 3),))), (None,))
        self.assertEqual(game.told((0, (0,), (("b", 2), ("a", 3)))), (None,))
        self.assertEqual(game.told((3, (0,), ())), ())

    def test_at_bad_standings(self):
        restless = Service(2, [], [(0, "a", 1)])
        game = Game(chain(3, [0, 1, 2]), Lot(restless), ahead=1)
        self.assertEqual(game.told((0, (0,), (("a", 1),))), (("a", 2),))
        self.assertEqual(game.told((1, (1,), (("a", 2),))), (None,))
        self.assertEqual(game.told((2, (1,), ())), ())

    def test_standings_that_are_never_reached(self):
        game = Game(chain(3), Lot(idle(3), idle(3)), falls=1)
        self.assertEqual(game.told((1, (2, 1), ())), (("a", 2),))
        self.assertEqual(game.told((1, (-1, 1), ())), (("a", 2),))


class BadStandingTest(unittest.TestCase):
    def assert_none(self, game, *standings):
        for standing in standings:
            with self.assertRaises(BadStanding) as caught:
                game.told(standing)
            self.assertEqual(caught.exception.standing, standing)

    def test_states(self):
        game = Game(chain(3), Lot(idle(2), idle(1)))
        self.assert_none(game, (-1, (0, 0), ()), (3, (0, 0), ()), (0, (2, 0), ()), (0, (0, 1), ()))
        self.assert_none(game, (0, (), ()), (0, (0,), ()), (0, (0, 0, 0), ()), (0, (0, 0, -1), ()))

    def test_services_that_fall_out(self):
        self.assert_none(Game(chain(3), Lot(idle(2), idle(1))), (0, (-1, 0), ()), (0, (0, -1), ()), (0, (-2, 0), ()))
        game = Game(chain(3), Lot(idle(2), idle(1)), falls=1)
        self.assert_none(game, (0, (-1, -1), ()), (0, (-2, 0), ()), (0, (2, 0), ()))
        self.assertEqual(game.told((0, (0, -1), ())), (("a", 1),))
        self.assertEqual(Game(chain(3), Lot(idle(2), idle(1)), falls=2).told((0, (-1, -1), ())), (("a", 1),))

    def test_services_that_are_away_from_the_beginning(self):
        lot = Lot(idle(2), idle(2), idle(2))
        lot.set_states((0, -1, 0))
        game = Game(chain(3), lot, falls=1)
        self.assert_none(game, (0, (0, 0, 0), ()), (0, (0, 1, -1), ()), (0, (-1, -1, -1), ()))
        for states in ((0, -1, 1), (-1, -1, 0), (1, -1, -1)):
            self.assertEqual(game.told((0, states, ())), (("a", 1),))

    def test_known_pairs(self):
        self.assert_none(Game(chain(4), Lot()), (0, (), (("a", 1),)))
        game = Game(fork(), Lot(), ahead=2)
        self.assert_none(
            game,
            (0, (), ()), (0, (), (("a", 1),)), (0, (), (("a", 1), ("c", 1), ("c", 1))),
            (0, (), (("c", 1), ("c", 1))), (0, (), (("a", 1), ("c", 0))), (0, (), (("a", 2), ("a", 3))),
            (2, (), ()), (3, (), (("a", 3),)), (0, (), (("a", 3), ("a", 3))), (0, (), (None,)), (1, (), (("b", 0),)),
        )
        self.assertEqual(game.told((1, (), (("b", 0), ("a", 3)))), (None,))

    def test_exactly_the_standings_of_the_words(self):
        lot = Lot(idle(2), idle(1), idle(1))
        lot.set_states((1, -1, 0))
        known = [(), (("a", 1),), (("a", 3),), (("b", 2),), (("a", 1), ("c", 1)), (("a", 3), ("a", 3)),
                 (("b", 2), ("a", 3)), (("b", 0), ("b", 2)), (("c", 1), ("b", 0)), (("a", 3), ("c", 1))]
        for ahead in range(3):
            for falls in range(3):
                game = Game(fork(), lot, ahead=ahead, falls=falls)
                slow = SlowGame(fork(), [idle(2), idle(1), idle(1)], (1, -1, 0), ahead, falls)
                for state in range(-1, 5):
                    for states in [(a, b, c) for a in range(-2, 3) for b in range(-2, 2) for c in range(-1, 2)]:
                        for row in known:
                            standing = (state, states, row)
                            if standing in slow.standings:
                                self.assertEqual(game.told(standing), slow.told(standing))
                            else:
                                self.assert_none(game, standing)


if __name__ == "__main__":
    unittest.main()

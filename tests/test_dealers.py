import unittest

from askshanded.dealing import Dealer, beat, hand, settle
from askshanded.errors import BadStanding, ChosenWrong, NoAsk, NoStep, Refused
from askshanded.games import Game
from askshanded.lots import Lot
from askshanded.machines import Pattern, Service

FIRST, CUT = (0, (0, 0), ()), ("cut", 1)


def a_lot():
    cutter = Service(2, [0], [(0, "cut", 0), (0, "cut", 1), (1, "mend", 0)])
    return Lot(cutter, Service(1, [0], [(0, "mend", 0)]))


def a_game(**counts):
    return Game(Pattern(2, [0], [(0, "cut", 1), (1, "mend", 0)]), a_lot(), **counts)


def taker(*asks):
    return Service(1, [0], [(0, ask, 0) for ask in asks])


class DealerTest(unittest.TestCase):
    def test_the_first_row_with_both(self):
        dealer = Dealer([(FIRST, CUT, 3), (FIRST, CUT, 4), (FIRST, None, 5), ((1, (0, 0), ()), CUT, 6)])
        self.assertEqual(dealer(FIRST, CUT), 3)
        self.assertEqual(dealer(FIRST, None), 5)
        self.assertEqual(dealer((1, (0, 0), ()), CUT), 6)

    def test_spare(self):
        rows = [(FIRST, CUT, 3)]
        for standing, step in ((FIRST, None), (FIRST, ("cut", 0)), (FIRST, ("mend", 1)), ((0, (0, 1), ()), CUT)):
            self.assertEqual(Dealer(rows)(standing, step), 0)
            self.assertEqual(Dealer(rows, spare=7)(standing, step), 7)
            self.assertEqual(Dealer([], spare=-1)(standing=standing, step=step), -1)
        self.assertEqual(Dealer(rows=rows, spare=7)(FIRST, CUT), 3)
        with self.assertRaises(TypeError):
            Dealer(rows, 7)

    def test_rows_are_copied(self):
        rows = [(FIRST, CUT, 3)]
        dealer = Dealer(rows)
        rows[0] = (FIRST, CUT, 4)
        rows.append((FIRST, None, 5))
        self.assertEqual((dealer(FIRST, CUT), dealer(FIRST, None)), (3, 0))


class TableDealerTest(unittest.TestCase):
    def setUp(self):
        services = [taker("b"), taker("a"), taker("a", "b"), taker("a")]
        self.table = settle(Game(Pattern(1, [0], [(0, "a", 0), (0, "b", 0), (0, "b", 0)]), Lot(*services)))
        self.standing = (0, (0, 0, 0, 0), ())

    def picks(self, *favourites):
        dealer = self.table.dealer(*favourites)
        self.assertIsInstance(dealer, Dealer)
        self.assertIsNone(beat(self.table.game, dealer))
        return dealer(self.standing, ("a", 0)), dealer(self.standing, ("b", 0))

    def test_the_least_safe_number(self):
        self.assertEqual(self.picks(), (1, 0))

    def test_the_first_safe_favourite(self):
        self.assertEqual(self.picks(3), (3, 0))
        self.assertEqual(self.picks(2), (2, 2))
        self.assertEqual(self.picks(3, 2), (3, 2))
        self.assertEqual(self.picks(2, 3), (2, 2))
        self.assertEqual(self.picks(0, 3, 2, 1), (3, 0))
        self.assertEqual(self.picks(-1, 9, 4), (1, 0))

    def test_other_standings_and_steps(self):
        for favourites in ((), (3,), (2, 3)):
            dealer = self.table.dealer(*favourites)
            self.assertEqual(dealer(self.standing, ("c", 0)), 0)
            self.assertEqual(dealer(self.standing, None), 0)
            self.assertEqual(dealer((1, (0, 0, 0, 0), ()), ("a", 0)), 0)
            self.assertEqual(dealer((0, (0, 0, 0, -1), ()), ("a", 0)), 0)

    def test_at_each_standing(self):
        table = settle(a_game())
        dealer = table.dealer(1)
        self.assertEqual(dealer(FIRST, CUT), 0)
        self.assertEqual(dealer((1, (0, 0), ()), ("mend", 0)), 1)
        self.assertEqual(dealer((1, (1, 0), ()), ("mend", 0)), 0)


class BeatTest(unittest.TestCase):
    def test_a_dealer_that_never_fails(self):
        game = a_game()
        self.assertIsNone(beat(game, settle(game).dealer()))
        self.assertIsNone(beat(game=game, dealer=lambda standing, step: 0 if standing[1] != (0, 0) or step == CUT else 1))

    def test_at_the_first_standing(self):
        for number in (1, -1, -2, 2, 9):
            self.assertEqual(beat(a_game(), lambda standing, step: number), (FIRST, []))

    def test_a_number_of_no_service_is_not_counted_from_the_end(self):
        game = Game(Pattern(1, [0], [(0, "mend", 0)]), Lot(taker("mend")))
        self.assertIsNone(beat(game, lambda standing, step: 0))
        self.assertEqual(beat(game, lambda standing, step: -1), ((0, (0,), ()), []))

    def test_the_dealer_fails_later(self):
        standing, moves = beat(a_game(), lambda standing, step: 0)
        self.assertEqual((standing, moves), (FIRST, [(CUT, 0, 0)]))
        self.assertIs(type(moves), list)

    def test_a_bad_standing(self):
        standing, moves = beat(a_game(), lambda standing, step: 0 if step == CUT else 1)
        self.assertEqual((standing, moves), (FIRST, [(CUT, 0, 1), (("mend", 0), 1, 0)]))
        stuck = Service(2, [0], [(0, "mend", 1)])
        game = Game(Pattern(1, [0], [(0, "mend", 0)]), Lot(stuck, taker("mend")))
        self.assertEqual(beat(game, lambda standing, step: 0), ((0, (0, 0), ()), [(("mend", 0), 0, 1)]))
        self.assertEqual(beat(Game(Pattern(1, [0], []), Lot(Service(2, [0], [], 1))), lambda *told: 0),
                         ((0, (1,), ()), []))

    def test_a_dealer_is_not_asked_at_a_bad_standing(self):
        game = Game(Pattern(1, [0], [(0, "mend", 0)]), Lot(Service(2, [0], [(1, "mend", 1)], 1)))
        self.assertEqual(beat(game, self.fail), ((0, (1,), ()), []))

    def test_the_shortest_failure(self):
        steps = [(0, "a", 1), (1, "a", 2), (2, "a", 3), (3, "z", 3), (0, "b", 4), (4, "z", 4), (0, "c", 5), (5, "c", 6),
                 (6, "z", 6)]
        game = Game(Pattern(7, [], steps), Lot(taker("a", "b", "c"), taker("a", "b", "c")))
        self.assertEqual(beat(game, lambda *told: 1), ((0, (0, 0), ()), [(("b", 4), 1, 0)]))

    def test_all_first_standings(self):
        steps = [(0, "a", 1), (1, "a", 0), (0, "b", 2), (2, "z", 2)]
        game = Game(Pattern(3, [], steps), Lot(taker("a", "b")), ahead=1)
        standing, moves = beat(game, lambda *told: 0)
        self.assertEqual((standing, moves), ((0, (0,), (("b", 2),)), [(("z", 2), 0, 0)]))

    def test_falls(self):
        game = Game(Pattern(1, [0], [(0, "mend", 0)]), Lot(taker("mend"), taker("mend")), falls=1)
        self.assertEqual(beat(game, lambda standing, step: 0), ((0, (0, 0), ()), [(None, 0, -1)]))
        self.assertEqual(beat(game, lambda standing, step: 1), ((0, (0, 0), ()), [(None, 1, -1)]))
        self.assertIsNone(beat(game, lambda standing, step: 1 if standing[1][0] == -1 else 0))

    def test_none_is_told(self):
        game = Game(Pattern(2, [1], [(0, "mend", 1)]), Lot(Service(2, [0], [(0, "mend", 1)]), taker("mend")), ahead=1)
        first = (0, (0, 0), (("mend", 1),))
        self.assertEqual(beat(game, lambda standing, step: 0), (first, [(None, 0, 1)]))
        self.assertIsNone(beat(game, lambda standing, step: 1 if step is None else 0))

    def test_any_end_may_come(self):
        wavering = Service(3, [0, 1, 2], [(0, "a", 0), (0, "a", 2), (2, "b", 0)])
        game = Game(Pattern(1, [0], [(0, "a", 0)]), Lot(wavering))
        self.assertEqual(beat(game, lambda *told: 0), ((0, (0,), ()), [(("a", 0), 0, 2)]))


class HandTest(unittest.TestCase):
    def hand(self, number, *parts, **counts):
        return hand(a_game(**counts), lambda standing, step: number, *parts)

    def test_what_is_picked_and_the_standing_behind(self):
        self.assertEqual(self.hand(0, FIRST, CUT, 0), (0, (1, (0, 0), ())))
        self.assertEqual(self.hand(0, FIRST, CUT, 1), (0, (1, (1, 0), ())))
        self.assertEqual(self.hand(1, (1, (1, 0), ()), ("mend", 0), 0), (1, (0, (1, 0), ())))

    def test_by_name(self):
        dealer = Dealer([], spare=1)
        after = hand(game=a_game(), dealer=dealer, standing=(1, (0, 0), ()), step=("mend", 0), end=0)
        self.assertEqual(after, (1, (0, (0, 0), ())))

    def test_at_a_bad_standing(self):
        game = Game(Pattern(2, [0, 1], [(0, "mend", 1)]), Lot(Service(2, [0], [(1, "mend", 1)], 1)))
        self.assertEqual(hand(game, Dealer([]), game.first[0], ("mend", 1), 1), (0, (1, (1,), ())))

    def test_known_pairs(self):
        standing = (0, (0, 0), (CUT,))
        self.assertEqual(self.hand(0, standing, ("mend", 0), 1, ahead=1), (0, (1, (1, 0), (("mend", 0),))))
        standing = (0, (0, 0), (CUT, ("mend", 0)))
        self.assertEqual(self.hand(0, standing, CUT, 0, ahead=2), (0, (1, (0, 0), (("mend", 0), CUT))))
        game = Game(Pattern(2, [0, 1], [(0, "cut", 1)]), a_lot(), ahead=2)
        self.assertEqual(hand(game, Dealer([]), (0, (0, 0), (CUT,)), None, 1), (0, (1, (1, 0), ())))

    def test_a_service_that_fell_out(self):
        self.assertEqual(self.hand(0, (0, (0, -1), ()), CUT, 1, falls=1), (0, (1, (1, -1), ())))
        with self.assertRaises(Refused):
            self.hand(1, (1, (1, -1), ()), ("mend", 0), 0, falls=1)

    def test_no_standing(self):
        for standing in ((2, (0, 0), ()), (0, (0, -1), ()), (0, (0, 0), (CUT,)), (0, (0, 2), ())):
            with self.assertRaises(BadStanding) as caught:
                self.hand(9, standing, ("z", 9), 9)
            self.assertEqual(caught.exception.standing, standing)

    def test_no_ask(self):
        for standing, step in ((FIRST, ("cut", 0)), (FIRST, ("mend", 0)), (FIRST, None), ((1, (0, 0), ()), CUT)):
            with self.assertRaises(NoAsk) as caught:
                hand(a_game(), self.fail, standing, step, 9)
            self.assertEqual(caught.exception.step, step)
        ended = Game(Pattern(2, [0], [(0, "cut", 1)]), a_lot(), ahead=1)
        for standing, step in (((1, (0, 0), ()), None), ((1, (0, 0), ()), CUT), ((0, (0, 0), (CUT,)), CUT)):
            with self.assertRaises(NoAsk) as caught:
                hand(ended, self.fail, standing, step, 0)
            self.assertEqual(caught.exception.step, step)

    def test_the_dealer_fails(self):
        for number in (1, 2, -1, -2):
            with self.assertRaises(Refused) as caught:
                self.hand(number, FIRST, CUT, 9)
            self.assertEqual((caught.exception.standing, caught.exception.step), (FIRST, CUT))
            self.assertIsInstance(caught.exception.__cause__, ChosenWrong)
            self.assertEqual(caught.exception.__cause__.number, number)

    def test_no_end(self):
        for end in (-1, 2, 9):
            with self.assertRaises(NoStep) as caught:
                self.hand(0, FIRST, CUT, end)
            self.assertEqual((caught.exception.ask, caught.exception.end), ("cut", end))
        with self.assertRaises(NoStep) as caught:
            self.hand(0, (0, (0, 0), (CUT,)), ("mend", 0), 5, ahead=1)
        self.assertEqual((caught.exception.ask, caught.exception.end), ("cut", 5))


if __name__ == "__main__":
    unittest.main()

import unittest

from askshanded.errors import BadNumber, BadState, NoStep, TooLarge
from askshanded.lots import Away, Joint, Lot
from askshanded.machines import Service


def a_cutter(now=0):
    return Service(2, [0], [(0, "cut", 0), (0, "cut", 1), (1, "mend", 0)], now)


def a_mender(now=0):
    return Service(3, [0, 2], [(0, "mend", 1), (1, "mend", 2)], now)


def parts(service):
    return service.size, service.marks, service.steps, service.now


def whole(lot):
    """All that can be seen of a lot."""
    twin = Lot() + lot
    twin.set_states([0] * len(lot))
    return lot.states, [parts(twin[number]) for number in range(len(lot))]


class LotTest(unittest.TestCase):
    def test_length_and_states(self):
        self.assertEqual((len(Lot()), Lot().states), (0, ()))
        lot = Lot(a_cutter(1), a_mender(2), a_cutter())
        self.assertEqual((len(lot), lot.states), (3, (1, 2, 0)))
        self.assertIs(type(lot.states), tuple)

    def test_five_services_and_six(self):
        self.assertEqual(len(Lot(*[a_cutter()] * 5)), 5)
        for number in (6, 9):
            with self.assertRaises(TooLarge) as caught:
                Lot(*[a_cutter()] * number)
            self.assertEqual(caught.exception.size, number)

    def test_one_service_may_stand_in_it_twice(self):
        cutter = a_cutter()
        lot = Lot(cutter, cutter)
        lot.set_states((1, 0))
        self.assertEqual((lot.states, lot[0].now, lot[1].now, cutter.now), ((1, 0), 1, 0, 0))

    def test_truth(self):
        lot = Lot(a_cutter(), a_mender())
        for states, resting in (((0, 0), True), ((0, 2), True), ((1, 0), False), ((0, 1), False), ((1, 1), False),
                                ((-1, 0), True), ((1, -1), False), ((-1, 1), False), ((-1, -1), True)):
            lot.set_states(states)
            self.assertIs(bool(lot), resting, states)
        self.assertIs(bool(Lot()), True)

    def test_methods_are_defined_in_the_class(self):
        for name in ("__init__", "__len__", "__bool__", "set_states", "__getitem__", "__setitem__", "__add__",
                     "__iadd__", "__le__"):
            self.assertIn(name, vars(Lot))
        for name in ("__init__", "__enter__", "__exit__"):
            self.assertIn(name, vars(Away))
        self.assertIn("__init__", vars(Joint))

    def test_a_lot_is_not_iterated_over(self):
        with self.assertRaises(TypeError):
            list(Lot(a_cutter()))


class SetStatesTest(unittest.TestCase):
    def test_states_are_set(self):
        lot = Lot(a_cutter(), a_mender())
        for states in ((0, 0), (1, 2), (-1, 1), (0, -1), (-1, -1)):
            lot.set_states(states)
            self.assertEqual(lot.states, states)
        lot.set_states(states=(1, 1))
        self.assertEqual(lot.states, (1, 1))
        Lot().set_states(())

    def test_a_passed_list_is_copied(self):
        lot, states = Lot(a_cutter(), a_mender()), [1, 2]
        lot.set_states(states)
        states[0] = 0
        self.assertEqual(lot.states, (1, 2))

    def test_bad_states_change_nothing(self):
        lot = Lot(a_cutter(1), a_mender(2))
        for states in ((2, 0), (0, 3), (-2, 0), (0, -2), (), (0,), (0, 0, 0), (0, 0, -1), (200, 0)):
            with self.assertRaises(BadState) as caught:
                lot.set_states(states)
            self.assertEqual(caught.exception.state, states)
            self.assertEqual(lot.states, (1, 2))
        with self.assertRaises(BadState):
            Lot().set_states((-1,))


class LotItemsTest(unittest.TestCase):
    def test_items_are_services_in_their_present_states(self):
        lot = Lot(a_cutter(1), a_mender())
        lot.set_states((0, 2))
        self.assertEqual(parts(lot[0]), parts(a_cutter()))
        self.assertEqual(parts(lot[1]), parts(a_mender(2)))
        self.assertIs(type(lot[0]), Service)

    def test_moving_a_passed_service_changes_no_lot(self):
        cutter = a_cutter()
        lot = Lot(cutter)
        cutter["cut"] = 1
        self.assertEqual((lot.states, lot[0].now, bool(lot)), ((0,), 0, True))

    def test_moving_a_lot_changes_no_passed_service(self):
        cutter = a_cutter()
        lot = Lot(cutter)
        lot.set_states((1,))
        self.assertEqual(cutter.now, 0)

    def test_moving_an_item_changes_no_lot(self):
        lot = Lot(a_cutter())
        taken = lot[0]
        taken["cut"] = 1
        self.assertEqual((taken.now, lot.states, lot[0].now), (1, (0,), 0))
        lot.set_states((1,))
        lot.set_states((0,))
        self.assertEqual(taken.now, 1)
        with self.assertRaises(NoStep):
            lot[0]["mend"] = 0

    def test_no_such_item(self):
        lot = Lot(a_cutter(), a_mender())
        for number in (-1, -2, 2, 5):
            with self.assertRaises(BadNumber) as caught:
                lot[number]
            self.assertEqual(caught.exception.number, number)
        with self.assertRaises(BadNumber):
            Lot()[0]

    def test_an_item_that_is_away(self):
        lot = Lot(a_cutter(), a_mender())
        lot.set_states((0, -1))
        with self.assertRaises(BadNumber) as caught:
            lot[1]
        self.assertEqual(caught.exception.number, 1)
        self.assertEqual(lot[0].now, 0)

    def test_an_item_is_replaced(self):
        lot = Lot(a_cutter(), a_mender(1), a_cutter(1))
        newer = a_cutter(1)
        lot[1] = newer
        self.assertEqual(whole(lot), ((0, 1, 1), [parts(a_cutter())] * 3))
        newer["mend"] = 0
        self.assertEqual(lot.states, (0, 1, 1))
        lot[0] = a_mender(2)
        lot[2] = a_mender()
        self.assertEqual(whole(lot), ((2, 1, 0), [parts(a_mender()), parts(a_cutter()), parts(a_mender())]))

    def test_an_item_that_is_away_is_replaced(self):
        lot = Lot(a_cutter(), a_mender())
        lot.set_states((-1, -1))
        lot[0] = a_mender(2)
        self.assertEqual((lot.states, parts(lot[0])), ((2, -1), parts(a_mender(2))))

    def test_no_such_item_to_replace(self):
        lot = Lot(a_cutter(), a_mender())
        for number in (-1, 2):
            with self.assertRaises(BadNumber) as caught:
                lot[number] = a_cutter(1)
            self.assertEqual(caught.exception.number, number)
        self.assertEqual(whole(lot), whole(Lot(a_cutter(), a_mender())))

    def test_an_item_of_the_lot_itself(self):
        lot = Lot(a_cutter(1), a_mender(1))
        lot[1] = lot[0]
        self.assertEqual(lot.states, (1, 1))
        self.assertEqual(parts(lot[1]), parts(a_cutter(1)))

    def test_a_joint_machine_in_a_lot(self):
        joint = Joint(Lot(a_mender(), a_mender()))
        joint["mend"] = joint["mend"][-1]
        lot = Lot(a_mender(1), joint)
        self.assertEqual(lot.states, (1, joint.now))
        taken = lot[1]
        self.assertEqual(parts(taken), parts(joint))
        self.assertEqual(taken.names, joint.names)
        taken["mend"] = taken["mend"][0]
        self.assertNotEqual(taken.now, joint.now)
        self.assertEqual(lot[1].now, joint.now)


class LotSumsTest(unittest.TestCase):
    def setUp(self):
        self.lot = Lot(a_cutter(1), a_mender())
        self.other = Lot(a_mender(2))

    def test_sum_of_lots(self):
        both = self.lot + self.other
        self.assertEqual(whole(both), ((1, 0, 2), [parts(a_cutter()), parts(a_mender()), parts(a_mender())]))
        self.assertEqual(whole(self.lot), whole(Lot(a_cutter(1), a_mender())))
        self.assertEqual(whole(self.other), whole(Lot(a_mender(2))))

    def test_sum_with_a_service(self):
        cutter = a_cutter(1)
        both = self.other + cutter
        cutter["mend"] = 0
        self.assertEqual(whole(both), ((2, 1), [parts(a_mender()), parts(a_cutter())]))
        self.assertEqual(len(self.other), 1)

    def test_sum_with_a_joint_machine(self):
        joint = Joint(self.other)
        both = self.lot + joint
        self.assertEqual((both.states, parts(both[2])), ((1, 0, 0), parts(joint)))

    def test_sum_of_a_lot_with_itself(self):
        both = self.lot + self.lot
        self.assertEqual(both.states, (1, 0, 1, 0))
        self.assertEqual([both[number].size for number in range(4)], [2, 3, 2, 3])
        self.assertEqual(self.lot.states, (1, 0))

    def test_sums_with_nothing(self):
        self.assertEqual(whole(self.lot + Lot()), whole(self.lot))
        self.assertEqual(whole(Lot() + self.lot), whole(self.lot))

    def test_a_sum_is_a_new_lot(self):
        both = self.lot + self.other
        both.set_states((0, 1, 1))
        self.lot.set_states((1, 2))
        self.assertEqual((both.states, self.lot.states, self.other.states), ((0, 1, 1), (1, 2), (2,)))
        same = self.lot + Lot()
        same[0] = a_mender(2)
        self.assertEqual((self.lot.states, self.lot[0].size), ((1, 2), 2))

    def test_sums_with_services_that_are_away(self):
        self.lot.set_states((-1, 2))
        self.other.set_states((-1,))
        both = self.lot + self.other
        self.assertEqual(both.states, (-1, 2, -1))
        self.assertEqual((both + a_cutter(1)).states, (-1, 2, -1, 1))
        self.assertEqual((Lot(a_cutter()) + both).states, (0, -1, 2, -1))
        both.set_states((1, 2, 2))
        self.assertEqual(parts(both[2]), parts(a_mender(2)))
        self.lot += self.lot
        self.assertEqual(self.lot.states, (-1, 2, -1, 2))

    def test_sums_in_place(self):
        lot = same = self.lot
        lot += self.other
        self.assertIs(lot, same)
        self.assertEqual(whole(same), ((1, 0, 2), [parts(a_cutter()), parts(a_mender()), parts(a_mender())]))
        lot += a_cutter(1)
        self.assertIs(lot, same)
        self.assertEqual(lot.states, (1, 0, 2, 1))
        self.assertEqual(self.other.states, (2,))
        self.other.set_states((0,))
        self.assertEqual(lot.states, (1, 0, 2, 1))

    def test_sum_in_place_with_itself(self):
        lot = same = self.lot
        lot += lot
        self.assertIs(lot, same)
        self.assertEqual(same.states, (1, 0, 1, 0))
        self.assertEqual([lot[number].size for number in range(4)], [2, 3, 2, 3])
        lot.set_states((0, 0, 1, 1))
        self.assertEqual(lot.states, (0, 0, 1, 1))

    def test_five_services_and_more(self):
        four = self.lot + self.lot
        self.assertEqual(len(four + a_cutter()), 5)
        for other, number in ((self.lot, 6), (four, 8)):
            with self.assertRaises(TooLarge) as caught:
                four + other
            self.assertEqual(caught.exception.size, number)
            before = whole(four)
            with self.assertRaises(TooLarge) as caught:
                four += other
            self.assertEqual(caught.exception.size, number)
            self.assertEqual(whole(four), before)
        four += a_cutter()
        with self.assertRaises(TooLarge):
            four += a_cutter()
        self.assertEqual(len(four), 5)


class AwayTest(unittest.TestCase):
    def setUp(self):
        self.lot = Lot(a_cutter(1), a_mender(2))
        self.before = whole(self.lot)

    def test_the_service_is_away_inside(self):
        with Away(self.lot, 0) as same:
            self.assertIs(same, self.lot)
            self.assertEqual(same.states, (-1, 2))
            self.assertTrue(same)
            with self.assertRaises(BadNumber):
                same[0]
        self.assertEqual(whole(self.lot), self.before)
        self.assertFalse(self.lot)

    def test_nothing_happens_before_the_with(self):
        away = Away(lot=self.lot, number=1)
        self.assertEqual(self.lot.states, (1, 2))
        with away:
            self.assertEqual(self.lot.states, (1, -1))
        self.assertEqual(self.lot.states, (1, 2))

    def test_after_an_error(self):
        with self.assertRaises(KeyError):
            with Away(self.lot, 1) as same:
                same.set_states((0, -1))
                raise KeyError("inside")
        self.assertEqual(whole(self.lot), self.before)
        with self.assertRaises(BadState):
            with Away(self.lot, 1) as same:
                same.set_states((0,))
        self.assertEqual(whole(self.lot), self.before)

    def test_after_changes_inside(self):
        with Away(self.lot, 0) as same:
            same.set_states((0, 1))
            same[1] = a_cutter()
            same += a_mender()
            self.assertEqual(same.states, (0, 0, 0))
        self.assertEqual(whole(self.lot), self.before)

    def test_a_service_that_is_away_already(self):
        self.lot.set_states((-1, 1))
        with Away(self.lot, 0) as same:
            self.assertEqual(same.states, (-1, 1))
            same.set_states((0, 0))
        self.assertEqual(self.lot.states, (-1, 1))

    def test_one_within_another(self):
        with Away(self.lot, 0):
            with Away(self.lot, 1):
                self.assertEqual(self.lot.states, (-1, -1))
            self.assertEqual(self.lot.states, (-1, 2))
            with Away(self.lot, 0):
                self.assertEqual(self.lot.states, (-1, 2))
            self.assertEqual(self.lot.states, (-1, 2))
        self.assertEqual(whole(self.lot), self.before)

    def test_the_same_object_again(self):
        away = Away(self.lot, 0)
        with away:
            self.lot.set_states((-1, 0))
            with away:
                self.lot.set_states((1, 1))
            self.assertEqual(self.lot.states, (-1, 0))
        self.assertEqual(whole(self.lot), self.before)
        self.lot.set_states((0, 0))
        with away:
            self.assertEqual(self.lot.states, (-1, 0))
        self.assertEqual(self.lot.states, (0, 0))

    def test_no_such_service(self):
        for number in (-1, 2, 5):
            with self.assertRaises(BadNumber) as caught:
                Away(self.lot, number)
            self.assertEqual(caught.exception.number, number)
        with self.assertRaises(BadNumber):
            Away(Lot(), 0)
        self.assertEqual(whole(self.lot), self.before)

    def test_a_service_that_has_gone_since(self):
        with Away(self.lot, 0):
            self.lot += a_cutter()
            late = Away(self.lot, 2)
        with self.assertRaises(BadNumber):
            with late:
                self.fail("the lot has no service 2 any more")
        self.assertEqual(whole(self.lot), self.before)


if __name__ == "__main__":
    unittest.main()

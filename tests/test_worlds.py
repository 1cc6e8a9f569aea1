import unittest

from oneglance.worlds import is_state, is_world
from tests.things import ANYTHING, HUGE, ODD_PARTS

NO_WORLD = [thing for thing in ANYTHING if thing != (1, 2)]
NO_STATE = [thing for thing in ANYTHING if thing not in [(1, 2), (True, 2)]]


class WorldsTest(unittest.TestCase):
    def holds(self, thing):
        self.assertIs(is_world(thing), True, thing)

    def fails(self, thing):
        self.assertIs(is_world(thing), False, thing)

    def test_each_number_of_boxes(self):
        for boxes in range(-3, 10):
            (self.holds if 1 <= boxes <= 6 else self.fails)((boxes, 5))

    def test_each_wheel(self):
        for wheel in range(-3, 1005):
            (self.holds if 2 <= wheel <= 1000 else self.fails)((3, wheel))

    def test_corners(self):
        for boxes in (1, 6):
            for wheel in (2, 1000):
                self.holds((boxes, wheel))

    def test_great_numbers(self):
        for number in (HUGE, -HUGE, 10 ** 49, -(10 ** 49)):
            self.fails((number, 5))
            self.fails((3, number))

    def test_parts_of_another_kind(self):
        for part in ODD_PARTS:
            self.fails((part, 5))
            self.fails((3, part))

    def test_truths_are_no_numbers(self):
        self.fails((True, 5))
        self.fails((3, True))

    def test_a_list_is_no_tuple(self):
        self.fails([3, 5])

    def test_a_part_more_or_fewer(self):
        for thing in ((), (3,), (3, 5, 5), (3, 5, ())):
            self.fails(thing)

    def test_anything(self):
        for thing in NO_WORLD:
            self.fails(thing)


class StatesTest(unittest.TestCase):
    def holds(self, world, thing):
        self.assertIs(is_state(world, thing), True, thing)

    def fails(self, world, thing):
        self.assertIs(is_state(world, thing), False, thing)

    def test_each_number_at_each_place(self):
        for wheel in (2, 5, 1000):
            for number in (-2, -1, 0, 1, wheel - 1, wheel, wheel + 1):
                check = self.holds if 0 <= number < wheel else self.fails
                check((3, wheel), (number, 0, 0))
                check((3, wheel), (0, number, 0))
                check((3, wheel), (0, 0, number))

    def test_one_number_for_each_box(self):
        for boxes in range(1, 7):
            for many in range(0, 9):
                (self.holds if many == boxes else self.fails)((boxes, 2), (1,) * many)

    def test_great_numbers(self):
        for number in (HUGE, -HUGE):
            self.fails((2, 1000), (0, number))

    def test_parts_of_another_kind(self):
        for part in ODD_PARTS:
            self.fails((1, 1000), (part,))
            self.fails((2, 1000), (0, part))

    def test_a_list_is_no_tuple(self):
        self.fails((2, 5), [0, 0])

    def test_anything(self):
        for thing in NO_STATE:
            self.fails((2, 5), thing)
        for boxes in range(1, 7):
            for thing in ANYTHING:
                self.assertIn(is_state((boxes, 5), thing), (True, False))

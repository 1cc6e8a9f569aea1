import unittest

from oneglance.dealings import deeds_in, is_dealing
from tests.things import ANYTHING, HUGE, ODD_PARTS, woven_dealings

WORLD = (3, 7)
WAIT = ("wait",)
HANDS = (0, 3)
BOXES = (0, 2)
NUMBERS = (0, 6)
LEAPS = (1, 12)
PARTS = [("look", HANDS, BOXES), ("put", BOXES, HANDS), ("set", HANDS, NUMBERS), ("plus", HANDS, HANDS),
         ("leap", HANDS, LEAPS)]


def tries_within(many, innermost=()):
    dealing = innermost
    for step in range(many):
        dealing = (("try", dealing, ()),)
    return dealing


class DealingsTest(unittest.TestCase):
    def holds(self, thing, world=WORLD):
        self.assertIs(is_dealing(world, thing), True, thing)

    def fails(self, thing, world=WORLD):
        self.assertIs(is_dealing(world, thing), False, thing)

    def test_each_part_at_its_bounds_and_beyond(self):
        for word, first, second in PARTS:
            for one in range(-3, 16):
                for other in range(-3, 16):
                    fits = first[0] <= one <= first[1] and second[0] <= other <= second[1]
                    (self.holds if fits else self.fails)(((word, one, other),))

    def test_bounds_hang_on_the_world(self):
        for boxes in range(1, 7):
            for wheel in (2, 3, 999, 1000):
                world = (boxes, wheel)
                self.holds((("look", 0, boxes - 1), ("put", boxes - 1, 0), ("set", 0, wheel - 1)), world)
                self.fails((("look", 0, boxes),), world)
                self.fails((("put", boxes, 0),), world)
                self.fails((("set", 0, wheel),), world)

    def test_great_numbers(self):
        for word, first, second in PARTS:
            for number in (HUGE, -HUGE):
                self.fails(((word, number, second[0]),))
                self.fails(((word, first[0], number),))

    def test_parts_of_another_kind(self):
        for word, first, second in PARTS:
            for part in ODD_PARTS:
                self.fails(((word, part, second[0]),))
                self.fails(((word, first[0], part),))

    def test_truths_are_no_numbers(self):
        for word, first, second in PARTS:
            self.holds(((word, 1, 1),))
            self.fails(((word, True, 1),))
            self.fails(((word, 1, True),))

    def test_a_part_more_or_fewer(self):
        for word, first, second in PARTS:
            self.fails(((word,),))
            self.fails(((word, 1),))
            self.fails(((word, 1, 1, 1),))
        self.holds((WAIT,))
        self.fails((("wait", 0),))
        self.fails((("wait", ()),))
        self.fails(((),))
        for deed in (("try",), ("try", ()), ("try", (), (), ())):
            self.fails((deed,))

    def test_unknown_words(self):
        for word in ["", "Look", "looks", "done", " wait", 0, None, True, (), [], ["look"], ("look",), HUGE]:
            self.fails(((word, 1, 1),))
            self.fails(((word,),))
            self.fails(((word, (), ()),))

    def test_words_are_not_changed_for_one_another(self):
        self.fails((("wait", 1, 1),))
        self.fails((("try", 1, 1),))
        self.fails((("look", (), ()),))

    def test_a_list_is_no_tuple(self):
        self.fails([])
        self.fails([WAIT])
        self.fails((["wait"],))
        self.fails((["look", 0, 0],))
        self.fails((["try", (), ()],))
        self.fails((("try", [], ()),))
        self.fails((("try", (), []),))

    def test_a_deed_alone_is_no_dealing(self):
        self.fails(WAIT)
        self.fails(("look", 0, 0))
        self.fails(("try", (), ()))

    def test_none_to_twelve_deeds(self):
        for many in range(0, 16):
            (self.holds if many <= 12 else self.fails)((WAIT,) * many)

    def test_none_to_twelve_deeds_within_a_try(self):
        for many in range(0, 16):
            check = self.holds if many <= 12 else self.fails
            check((("try", (WAIT,) * many, ()),))
            check((("try", (), (WAIT,) * many),))

    def test_forty_deeds_in_all(self):
        twelve = (WAIT,) * 12
        self.holds((("try", twelve, twelve), ("try", twelve, (WAIT,))) + (WAIT,))
        self.fails((("try", twelve, twelve), ("try", twelve, (WAIT,))) + (WAIT,) * 2)
        self.fails((("try", twelve, twelve), ("try", twelve, (WAIT,) * 2)) + (WAIT,))
        self.fails((("try", twelve, twelve), ("try", (WAIT,), twelve)) + (WAIT,) * 2)

    def test_forty_deeds_deep_within(self):
        def deep(many):
            inner = ("try", (WAIT,) * 12, (WAIT,) * 12)
            return (("try", (inner, WAIT), (("try", (WAIT,) * many, ()),)),)

        self.assertEqual(deeds_in(deep(12)), 40)
        self.holds(deep(12))
        self.fails(deep(12) + (WAIT,))

    def test_three_tries_within_one_another(self):
        for many in range(0, 4):
            self.holds(tries_within(many))
            self.holds(tries_within(many, (WAIT,)))
        for many in range(4, 7):
            self.fails(tries_within(many))

    def test_tries_within_the_other_part(self):
        three = (("try", (), (("try", (), (("try", (), (WAIT,)),)),)),)
        self.holds(three)
        self.fails((("try", (), three),))
        self.fails((("try", three, ()),))

    def test_tries_beside_one_another_are_not_within(self):
        self.holds((("try", (), ()),) * 12)
        self.holds(tries_within(3) * 6)

    def test_a_try_of_what_is_no_dealing(self):
        for part in ODD_PARTS + [WAIT, ("look", 0, 0), (("look", 0, 3),), ((),), (("none",),)]:
            if part != ():
                self.fails((("try", part, ()),))
                self.fails((("try", (), part),))
                self.fails((("try", (("try", (), part),), ()),))

    def test_one_wrong_deed_among_right_ones(self):
        for place in range(12):
            deeds = [WAIT] * 12
            deeds[place] = ("set", 0, 7)
            self.fails(tuple(deeds))

    def test_anything(self):
        for thing in ANYTHING:
            (self.holds if thing == () else self.fails)(thing)
            self.fails((thing,))
            self.fails((WAIT, thing))

    def test_woven_dealings(self):
        for dealing in woven_dealings(1, WORLD, 300):
            (self.holds if deeds_in(dealing) <= 40 else self.fails)(dealing)


class DeedsInTest(unittest.TestCase):
    def test_without_tries(self):
        for many in range(0, 14):
            self.assertEqual(deeds_in((WAIT,) * many), many)

    def test_each_deed_counts_one(self):
        for word, first, second in PARTS:
            self.assertEqual(deeds_in(((word, 1, 1),)), 1)

    def test_a_try_counts_one_and_its_deeds_besides(self):
        self.assertEqual(deeds_in((("try", (), ()),)), 1)
        self.assertEqual(deeds_in((("try", (WAIT,) * 3, ()),)), 4)
        self.assertEqual(deeds_in((("try", (), (WAIT,) * 5),)), 6)
        self.assertEqual(deeds_in((WAIT, ("try", (WAIT,) * 3, (WAIT,) * 5), WAIT)), 11)

    def test_tries_within_tries(self):
        inner = ("try", (WAIT,), (WAIT, WAIT))
        self.assertEqual(deeds_in((("try", (inner, WAIT), (inner,)),)), 10)
        self.assertEqual(deeds_in(tries_within(3, (WAIT,))), 4)

    def test_beyond_the_bounds_it_still_counts(self):
        self.assertEqual(deeds_in((("try", (WAIT,) * 12, (WAIT,) * 12),) * 4), 100)
        self.assertEqual(deeds_in(tries_within(5, (WAIT,))), 6)

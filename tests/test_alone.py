import itertools
import unittest

from oneglance.alone import alone, footprint
from tests.things import woven_dealings

WORLD = (3, 7)
STATE = (4, 5, 0)
WAIT = ("wait",)


class Waiting(Exception):
    pass


def done_otherwise(world, deeds, boxes, hands, own, looked):
    """A second telling of what a dealing does, over copies alone, to set beside the program's."""
    if not deeds:
        return boxes, hands, own
    deed, rest = deeds[0], deeds[1:]
    boxes, hands, own = dict(boxes), dict(hands), dict(own)
    if deed[0] == "look":
        looked.update([deed[2]] if deed[2] not in own else [])
        hands[deed[1]] = boxes[deed[2]]
    elif deed[0] == "put":
        boxes[deed[1]] = own[deed[1]] = hands[deed[2]]
    elif deed[0] == "set":
        hands[deed[1]] = deed[2]
    elif deed[0] == "plus":
        hands[deed[1]] = (hands[deed[1]] + hands[deed[2]]) % world[1]
    elif deed[0] == "leap":
        rest = rest[deed[2]:] if hands[deed[1]] == 0 else rest
    elif deed[0] == "wait":
        raise Waiting()
    else:
        try:
            boxes, hands, own = done_otherwise(world, deed[1], boxes, hands, own, looked)
        except Waiting:
            boxes, hands, own = done_otherwise(world, deed[2], boxes, hands, own, looked)
    return done_otherwise(world, rest, boxes, hands, own, looked)


def told_otherwise(world, dealing, state):
    looked = set()
    hands = {hand: 0 for hand in range(4)}
    try:
        boxes, hands, own = done_otherwise(world, dealing, dict(enumerate(state)), hands, {}, looked)
    except Waiting:
        return ("waits", sorted(looked)), (sorted(looked), [])
    told = ("done", tuple(boxes[b] for b in range(world[0])), tuple(hands[h] for h in range(4)))
    return told, (sorted(looked), sorted(own.items()))


class AloneTest(unittest.TestCase):
    def done(self, dealing, state, hands, start=STATE):
        self.assertEqual(alone(WORLD, dealing, start), ("done", state, hands))

    def waits(self, dealing, boxes, start=STATE):
        self.assertEqual(alone(WORLD, dealing, start), ("waits", boxes))

    def test_no_deeds(self):
        self.done((), STATE, (0, 0, 0, 0))

    def test_look(self):
        self.done((("look", 0, 0),), STATE, (4, 0, 0, 0))
        self.done((("look", 3, 1),), STATE, (0, 0, 0, 5))
        self.done((("look", 1, 2),), STATE, (0, 0, 0, 0))

    def test_look_sees_own_puts(self):
        self.done((("set", 0, 3), ("put", 1, 0), ("look", 2, 1)), (4, 3, 0), (3, 0, 3, 0))

    def test_put(self):
        self.done((("look", 1, 0), ("put", 2, 1)), (4, 5, 4), (0, 4, 0, 0))
        self.done((("put", 0, 3),), (0, 5, 0), (0, 0, 0, 0))

    def test_set(self):
        for hand in range(4):
            hands = [0, 0, 0, 0]
            hands[hand] = 6
            self.done((("set", hand, 6),), STATE, tuple(hands))
        self.done((("set", 0, 6), ("set", 0, 0)), STATE, (0, 0, 0, 0))

    def test_plus(self):
        self.done((("set", 0, 2), ("set", 1, 3), ("plus", 0, 1)), STATE, (5, 3, 0, 0))

    def test_plus_of_a_hand_and_itself(self):
        self.done((("set", 2, 3), ("plus", 2, 2)), STATE, (0, 0, 6, 0))
        self.done((("set", 2, 5), ("plus", 2, 2)), STATE, (0, 0, 3, 0))

    def test_sums_beyond_the_wheel(self):
        self.done((("set", 0, 6), ("set", 1, 1), ("plus", 0, 1)), STATE, (0, 1, 0, 0))
        self.done((("set", 0, 6), ("set", 1, 6), ("plus", 0, 1)), STATE, (5, 6, 0, 0))
        for wheel in (2, 3, 1000):
            dealing = (("set", 0, wheel - 1), ("plus", 0, 0))
            self.assertEqual(alone((1, wheel), dealing, (0,))[2][0], wheel - 2)

    def test_leap_where_the_hand_holds_nothing(self):
        sets = (("set", 1, 1), ("set", 2, 2), ("set", 3, 3))
        self.done((("leap", 0, 1),) + sets, STATE, (0, 0, 2, 3))
        self.done((("leap", 0, 2),) + sets, STATE, (0, 0, 0, 3))
        self.done((("leap", 0, 3),) + sets, STATE, (0, 0, 0, 0))

    def test_no_leap_where_the_hand_holds_something(self):
        self.done((("set", 0, 1), ("leap", 0, 2), ("set", 1, 1), ("set", 2, 2)), STATE, (1, 1, 2, 0))

    def test_leap_beyond_the_end(self):
        for far in (1, 2, 12):
            self.done((("leap", 0, far),), STATE, (0, 0, 0, 0))
            self.done((("leap", 0, far), WAIT), STATE, (0, 0, 0, 0))

    def test_leap_stays_within_its_tuple(self):
        self.done((("try", (("leap", 0, 12), WAIT), ()), ("set", 1, 6)), STATE, (0, 6, 0, 0))
        self.done((("try", (WAIT,), (("leap", 0, 12), WAIT)), ("set", 1, 6)), STATE, (0, 6, 0, 0))

    def test_leap_over_a_try_is_over_one_deed(self):
        self.done((("leap", 0, 1), ("try", (WAIT,), (WAIT,)), ("set", 1, 6)), STATE, (0, 6, 0, 0))

    def test_leaps_over_a_leap(self):
        self.done((("leap", 0, 1), ("leap", 0, 12), ("set", 1, 6)), STATE, (0, 6, 0, 0))

    def test_wait(self):
        self.waits((WAIT,), [])
        self.waits((("look", 0, 2), ("put", 1, 0), WAIT, ("look", 0, 0)), [2])
        self.waits((("look", 0, 2), ("look", 0, 0), ("look", 0, 2), WAIT), [0, 2])

    def test_wait_that_hangs_on_a_box(self):
        dealing = (("look", 0, 0), ("leap", 0, 1), WAIT, ("set", 1, 1))
        self.waits(dealing, [0], (1, 0, 0))
        self.done(dealing, (0, 0, 0), (0, 1, 0, 0), (0, 0, 0))

    def test_try_whose_first_goes_through(self):
        one = (("set", 0, 2), ("put", 0, 0))
        self.done((("try", one, (("set", 1, 6),)),), (2, 5, 0), (2, 0, 0, 0))
        self.done((("try", one, (WAIT,)), ("look", 3, 0)), (2, 5, 0), (2, 0, 0, 2))

    def test_try_whose_first_waits_is_undone(self):
        one = (("set", 0, 2), ("put", 0, 0), ("look", 1, 1), ("plus", 2, 1), WAIT)
        self.done((("try", one, ()),), STATE, (0, 0, 0, 0))
        self.done((("try", one, (("look", 3, 0),)),), STATE, (0, 0, 0, 4))

    def test_undone_is_what_was_when_the_try_began(self):
        ahead = (("set", 0, 2), ("put", 0, 0))
        one = (("set", 0, 3), ("put", 0, 0), ("put", 1, 0), WAIT)
        self.done(ahead + (("try", one, ()),), (2, 5, 0), (2, 0, 0, 0))
        self.done(ahead + (("try", one, (("look", 1, 0), ("look", 2, 1))),), (2, 5, 0), (2, 2, 5, 0))

    def test_try_where_both_wait(self):
        one = (("look", 0, 1), ("put", 2, 0), WAIT)
        other = (("look", 0, 0), WAIT)
        self.waits((("try", one, other), ("look", 0, 2)), [0, 1])

    def test_deeds_behind_a_try_are_done(self):
        self.done((("try", (WAIT,), ()), ("set", 0, 1)), STATE, (1, 0, 0, 0))
        self.done((("try", (), (WAIT,)), ("set", 0, 1)), STATE, (1, 0, 0, 0))

    def test_inner_try_takes_up_its_own_wait(self):
        inner = ("try", (("set", 1, 1), WAIT), (("set", 2, 2),))
        self.done((("try", (("set", 0, 3), inner), (("set", 3, 6),)),), STATE, (3, 0, 2, 0))

    def test_outer_try_takes_up_where_both_inner_ones_wait(self):
        inner = ("try", (("set", 1, 1), ("put", 0, 1), WAIT), (("set", 2, 2), ("put", 1, 2), WAIT))
        outer = ("try", (("set", 0, 3), ("put", 2, 0), inner), (("set", 3, 6),))
        self.done((outer,), STATE, (0, 0, 0, 6))

    def test_wait_in_other_is_not_taken_up_by_its_own_try(self):
        self.waits((("try", (WAIT,), (("try", (WAIT,), (WAIT,)),)),), [])
        self.done((("try", (("try", (WAIT,), (WAIT,)),), (("set", 0, 1),)),), STATE, (1, 0, 0, 0))

    def test_wait_behind_a_try_undoes_the_whole_first(self):
        inner = ("try", (("set", 0, 1), ("put", 0, 0)), ())
        self.done((("try", (inner, WAIT), ()),), STATE, (0, 0, 0, 0))

    def test_three_tries_within_one_another(self):
        third = ("try", (("look", 0, 0), ("put", 1, 0), WAIT), (("look", 1, 1), ("put", 2, 1), WAIT))
        second = ("try", (("set", 2, 1), third), (("look", 3, 2), WAIT))
        first = ("try", (("put", 0, 3), second), (("look", 3, 0),))
        self.done((first,), STATE, (0, 0, 0, 4))
        self.waits((("try", (second,), (WAIT,)),), [0, 1, 2])

    def test_woven_dealings(self):
        for world, seed in (((2, 3), 2), ((1, 2), 3), ((3, 2), 4)):
            for dealing in woven_dealings(seed, world, 400):
                for state in itertools.product(range(world[1]), repeat=world[0]):
                    told, print_left = told_otherwise(world, dealing, state)
                    self.assertEqual(alone(world, dealing, state), told)
                    self.assertEqual(footprint(world, dealing, state), print_left)

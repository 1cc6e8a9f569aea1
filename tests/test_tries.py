import itertools
import random
import unittest

from oneglance.alone import alone
from oneglance.good import first_bad
from oneglance.logs import attempts, is_log
from oneglance.orders import is_order
from oneglance.rows import in_row
from oneglance.tries import Tries
from tests import otherwise_tries as otherwise
from tests.things import woven_run

WORLD = (3, 7)
STATE = (4, 5, 0)
WAIT = ("wait",)
ADD_ONE = (("look", 0, 0), ("set", 1, 1), ("plus", 0, 1), ("put", 0, 0))
LOOKS = (("look", 0, 0), ("look", 1, 1))
BLIND = (("set", 0, 3), ("put", 2, 0), ("put", 0, 0))
BOTH = (("look", 0, 0), ("look", 1, 1), ("put", 1, 0), ("put", 0, 1))
# Waits while box 2 has 0, then takes it away.
TAKES = (("look", 0, 2), ("leap", 0, 2), ("put", 2, 1), ("leap", 1, 12), WAIT)
GIVES = (("set", 0, 1), ("put", 2, 0))
EITHER = (("try", TAKES, (("look", 2, 1), ("leap", 2, 2), ("put", 1, 1), ("leap", 1, 12), WAIT)), ("put", 0, 2))
POOL = [ADD_ONE, LOOKS, BLIND, BOTH, TAKES, GIVES, EITHER]
# Short ones over two boxes that get into one another's way.
RIVALS = [(("put", 0, 0),), (("set", 0, 1), ("put", 1, 0), ("put", 0, 0)), (("look", 0, 0), ("put", 0, 1)),
          (("look", 0, 0), ("look", 1, 1), ("put", 1, 0)), (("look", 0, 1), ("leap", 0, 1), WAIT, ("put", 0, 0)),
          (("look", 0, 0), ("leap", 0, 2), ("put", 1, 0), ("leap", 1, 12), WAIT), (("look", 0, 1), ("look", 1, 0))]


def all_told(tries, many):
    told = [tries.log(), tries.order(), tries.now(), tries.rests()]
    return told + [tries.falls(i) for i in range(many)] + [tries.hands(i) for i in range(many)]


def woven_dealing(source, world):
    """Now and then one of the pool, which is of WORLD; else one of few deeds."""
    if world == WORLD and source.random() < 0.7:
        return source.choice(POOL)
    return woven_run(source, world, 3, source.randint(1, 6))


def woven_turn(source, tries, many):
    """Mostly one that is not done yet."""
    left = [i for i in range(many) if tries.hands(i) is None]
    return source.choice(left) if left and source.random() < 0.95 else source.randrange(many)


def woven_case(source):
    if source.random() < 0.5:
        return (2, 2), (source.randrange(2), source.randrange(2)), source.choices(RIVALS, k=source.randint(2, 5))
    world = source.choice([(1, 2), (2, 3), WORLD, WORLD])
    state = tuple(source.randrange(world[1]) for b in range(world[0]))
    return world, state, [woven_dealing(source, world) for i in range(source.randint(1, 5))]


class TriesTest(unittest.TestCase):
    def tried(self, *dealings, patience=None, state=STATE):
        self.tries = Tries(WORLD, state, list(dealings), patience)

    def goes(self, i, *words):
        for word in words:
            self.assertEqual(self.tries.go(i), word)

    def test_at_first(self):
        self.tried(ADD_ONE, LOOKS)
        self.assertEqual(all_told(self.tries, 2), [[], [], STATE, False, 0, 0, None, None])

    def test_no_deeds(self):
        self.tried(())
        self.goes(0, "begun", "done", "idle", "idle")
        self.assertEqual(all_told(self.tries, 1), [[("begin", 0), ("done", 0)], [0], STATE, True, 0, (0, 0, 0, 0)])

    def test_each_deed_is_a_step(self):
        self.tried((("look", 0, 0), ("set", 1, 3), ("plus", 0, 1), ("leap", 3, 1), WAIT, ("put", 1, 0), ("look", 2, 1)))
        self.goes(0, "begun", "went", "went", "went", "went", "went", "went", "took", "done", "idle")
        self.assertEqual((self.tries.now(), self.tries.hands(0)), ((4, 0, 0), (0, 3, 0, 0)))
        self.assertEqual(self.tries.log(), [("begin", 0), ("look", 0, 0, 4), ("put", 0, 1, 0), ("done", 0)])

    def test_writes_step_by_step_and_the_least_box_first(self):
        self.tried((("set", 0, 6), ("put", 2, 0), ("put", 1, 0), ("put", 0, 0), ("put", 2, 1)))
        self.goes(0, "begun", "went", "went", "went", "went", "went", "took")
        self.assertEqual((self.tries.now(), self.tries.hands(0), self.tries.order()), (STATE, None, []))
        self.goes(0, "wrote", "wrote")
        self.assertEqual((self.tries.now(), self.tries.hands(0), self.tries.order()), ((6, 6, 0), None, []))
        self.goes(0, "done", "idle")
        self.assertEqual((self.tries.now(), self.tries.hands(0), self.tries.order()), ((6, 6, 0), (6, 0, 0, 0), [0]))

    def test_puts_are_handed_on_at_the_end_and_rising(self):
        self.tried((("put", 2, 0), ("put", 0, 0), ("look", 1, 0), ("look", 1, 1)))
        self.goes(0, "begun", "went", "went", "went", "went")
        self.assertEqual(self.tries.log(), [("begin", 0), ("look", 0, 1, 5)])
        self.goes(0, "took")
        self.assertEqual(self.tries.log()[2:], [("put", 0, 0, 0), ("put", 0, 2, 0)])

    def test_leap_beyond_the_end_leaves_the_taking(self):
        self.tried((("leap", 0, 12), WAIT))
        self.goes(0, "begun", "went", "done")

    def test_attempts_are_numbered_as_they_begin(self):
        self.tried(LOOKS, ADD_ONE, ())
        for i in (2, 0, 1):
            self.goes(i, "begun")
        self.assertEqual(self.tries.log(), [("begin", 0), ("begin", 1), ("begin", 2)])
        self.goes(2, "done")
        self.goes(1, "went")
        self.assertEqual(self.tries.log()[3:], [("done", 0), ("look", 2, 0, 4)])

    def test_look_falls_and_begins_anew(self):
        self.tried(LOOKS, BOTH)
        self.goes(1, "begun", "went", "went", "went", "went", "took")
        self.goes(0, "begun", "fell", "begun", "fell", "begun")
        self.goes(1, "wrote", "done")
        self.goes(0, "went", "went", "done")
        self.assertEqual([self.tries.falls(0), self.tries.falls(1)], [2, 0])
        self.assertEqual((self.tries.order(), self.tries.hands(0), self.tries.now()), ([1, 0], (5, 4, 0, 0), (5, 4, 0)))

    def test_take_falls_and_begins_from_the_first_deed(self):
        self.tried(ADD_ONE, ADD_ONE)
        self.goes(0, "begun", "went", "went", "went", "went")
        self.goes(1, "begun", "went", "went", "went", "went", "took", "done")
        self.goes(0, "fell", "begun", "went", "went", "went", "went", "took", "done", "idle")
        self.assertEqual((self.tries.now(), self.tries.order()), ((6, 5, 0), [1, 0]))
        self.assertEqual((self.tries.hands(0), self.tries.hands(1)), ((6, 1, 0, 0), (5, 1, 0, 0)))

    def test_takes_without_puts_though_what_it_saw_has_changed(self):
        self.tried(LOOKS, ADD_ONE)
        self.goes(0, "begun", "went", "went")
        self.goes(1, "begun", "went", "went", "went", "went", "took", "done")
        self.goes(0, "done")
        self.assertEqual((self.tries.order(), self.tries.falls(0)), ([0, 1], 0))

    def test_hands_are_empty_in_each_attempt(self):
        self.tried((("plus", 0, 1), ("set", 1, 3), ("look", 2, 0)), BLIND)
        self.goes(1, "begun", "went", "went", "went", "took")
        self.goes(0, "begun", "went", "went", "fell")
        self.goes(1, "wrote", "done")
        self.goes(0, "begun", "went", "went", "went", "done")
        self.assertEqual(self.tries.hands(0), (0, 3, 3, 0))

    def test_i_is_the_number_of_a_dealing(self):
        self.tried((), LOOKS, (), BLIND, ())
        for i, words in enumerate([2, 4, 2, 7, 2]):
            told = [self.tries.go(i) for step in range(words)]
            self.assertEqual((told[0], told[-1]), ("begun", "done"))
        self.assertEqual(self.tries.order(), [0, 1, 2, 3, 4])


class TryTest(unittest.TestCase):
    def steps(self, dealing, words, state=STATE):
        tries = Tries(WORLD, state, [dealing])
        self.assertEqual([tries.go(0) for word in words], words)
        return tries

    def went(self, many):
        return ["begun"] + ["went"] * many

    def test_beginning_of_a_try_is_a_step(self):
        tries = self.steps((("try", (("set", 0, 2),), (WAIT,)), ("set", 1, 3)), self.went(3) + ["done"])
        self.assertEqual(tries.hands(0), (2, 3, 0, 0))

    def test_empty_parts(self):
        self.steps((("try", (), ()),), self.went(1) + ["done"])
        self.steps((("try", (), (WAIT,)), ("try", (WAIT,), ())), self.went(3) + ["done"])
        self.steps((("try", (("try", (), ()),), ()),), self.went(2) + ["done"])

    def test_wait_that_a_try_takes_up(self):
        one = (("set", 0, 2), ("put", 0, 0), ("look", 1, 1), WAIT)
        tries = self.steps((("set", 3, 1), ("try", one, (("look", 2, 0),))), self.went(7) + ["done", "idle"])
        self.assertEqual((tries.hands(0), tries.now()), ((0, 0, 4, 1), STATE))
        # The put was undone, so the look behind it was asked of the keeper.
        self.assertEqual(tries.log(), [("begin", 0), ("look", 0, 1, 5), ("look", 0, 0, 4), ("done", 0)])

    def test_puts_ahead_of_the_try_stay(self):
        one = (("set", 0, 3), ("put", 0, 0), ("put", 1, 0), WAIT)
        tries = self.steps((("set", 0, 2), ("put", 0, 0), ("try", one, (("look", 1, 0), ("look", 2, 1)))),
                           self.went(9) + ["took", "done"])
        self.assertEqual((tries.hands(0), tries.now()), ((2, 2, 5, 0), (2, 5, 0)))
        self.assertEqual(tries.log()[1:3], [("look", 0, 1, 5), ("put", 0, 0, 2)])

    def test_wait_in_the_other_is_taken_up_by_the_try_around(self):
        inner = ("try", (("set", 1, 1), WAIT), (("set", 2, 2), WAIT))
        tries = self.steps((("try", (("set", 0, 3), inner), (("set", 3, 6),)),), self.went(8) + ["done"])
        self.assertEqual(tries.hands(0), (0, 0, 0, 6))

    def test_wait_in_the_other_alone_sleeps(self):
        self.steps((("try", (WAIT,), (("set", 0, 1), WAIT)),), self.went(3) + ["slept", "asleep"])
        self.steps((("try", (WAIT,), (("try", (WAIT,), (WAIT,)),)),), self.went(4) + ["slept", "asleep"])

    def test_wait_behind_a_try_sleeps(self):
        self.steps((("try", (("set", 0, 1),), ()), WAIT), self.went(2) + ["slept", "asleep"])
        self.steps((("try", (), ()), WAIT), self.went(1) + ["slept", "asleep"])
        self.steps((("try", (WAIT,), (("set", 0, 1),)), WAIT), self.went(3) + ["slept", "asleep"])

    def test_wait_behind_an_inner_try_is_taken_up_by_the_outer_one(self):
        inner = ("try", (("put", 0, 0),), (WAIT,))
        tries = self.steps((("try", (inner, WAIT), (("set", 2, 6),)),), self.went(5) + ["done"])
        self.assertEqual((tries.hands(0), tries.now()), ((0, 0, 6, 0), STATE))

    def test_three_tries_within_one_another(self):
        third = ("try", (("look", 0, 0), ("put", 1, 0), WAIT), (("look", 1, 1), ("put", 2, 1), WAIT))
        second = ("try", (("set", 2, 1), third), (("look", 3, 2), WAIT))
        first = ("try", (("put", 0, 3), second), (("look", 3, 0),))
        tries = self.steps((first,), self.went(14) + ["done"])
        self.assertEqual(tries.hands(0), (0, 0, 0, 4))
        tries = self.steps((("try", (second,), (WAIT,)),), self.went(12) + ["slept", "asleep"])
        self.assertEqual(tries.log(), [("begin", 0), ("look", 0, 0, 4), ("look", 0, 1, 5), ("look", 0, 2, 0),
                                       ("fall", 0)])

    def test_leap_stays_within_its_tuple(self):
        tries = self.steps((("try", (("leap", 0, 12), WAIT), ()), ("set", 1, 6)), self.went(3) + ["done"])
        self.assertEqual(tries.hands(0), (0, 6, 0, 0))

    def test_alone_it_comes_to_what_it_comes_to_alone(self):
        source = random.Random(81)
        for step in range(600):
            world = source.choice([(1, 2), (2, 3), (3, 7)])
            dealing = woven_run(source, world, 3, 6)
            state = tuple(source.randrange(world[1]) for b in range(world[0]))
            tries = Tries(world, state, [dealing])
            words = [tries.go(0)]
            while words[-1] not in ("done", "slept"):
                words.append(tries.go(0))
            told = alone(world, dealing, state)
            self.assertEqual(words[-1], {"done": "done", "waits": "slept"}[told[0]])
            self.assertIs(tries.rests(), True)
            if told[0] == "done":
                self.assertEqual(("done", tries.now(), tries.hands(0)), told)
            else:
                self.assertEqual((tries.now(), tries.hands(0), tries.go(0)), (state, None, "asleep"))


class SleepTest(unittest.TestCase):
    def goes(self, i, *words):
        for word in words:
            self.assertEqual(self.tries.go(i), word)

    def test_sleeps_until_a_box_looked_into_is_written(self):
        self.tries = Tries(WORLD, STATE, [TAKES, BLIND])
        self.goes(0, "begun", "went", "went", "slept", "asleep", "asleep")
        self.assertEqual(self.tries.log()[-1], ("fall", 0))
        self.assertEqual(self.tries.falls(0), 0)
        self.assertIs(self.tries.rests(), False)
        self.goes(1, "begun", "went", "went", "went", "took")
        self.goes(0, "asleep")
        self.goes(1, "wrote")
        # Box 0 is written, which it did not look into.
        self.goes(0, "asleep")
        self.goes(1, "done")
        self.assertIs(self.tries.rests(), False)
        self.goes(0, "begun", "went", "went", "went", "went", "took", "done")
        self.assertIs(self.tries.rests(), True)
        self.assertEqual((self.tries.order(), self.tries.now()), ([1, 0], (3, 5, 0)))

    def test_wakes_by_a_write_though_the_box_is_still_held(self):
        self.tries = Tries(WORLD, STATE, [(("look", 0, 0), WAIT), BLIND])
        self.goes(0, "begun", "went", "slept", "asleep")
        self.goes(1, "begun", "went", "went", "went", "took", "wrote")
        self.goes(0, "begun", "fell", "begun")
        self.goes(1, "done")
        self.goes(0, "went", "slept", "asleep")
        self.assertIs(self.tries.rests(), True)
        self.assertEqual(self.tries.hands(0), None)

    def test_wakes_by_the_same_number_too(self):
        self.tries = Tries(WORLD, STATE, [(("look", 0, 2), WAIT), (("put", 2, 0),)])
        self.goes(0, "begun", "went", "slept", "asleep")
        self.goes(1, "begun", "went", "took", "done")
        self.goes(0, "begun", "went", "slept", "asleep")

    def test_wakes_at_once(self):
        self.tries = Tries(WORLD, STATE, [(("look", 0, 2), WAIT), GIVES])
        self.goes(0, "begun", "went")
        self.goes(1, "begun", "went", "went", "took", "done")
        self.goes(0, "slept")
        self.assertIs(self.tries.rests(), False)
        self.goes(0, "begun", "went", "slept", "asleep")
        self.assertIs(self.tries.rests(), True)

    def test_the_glance_that_it_had_then(self):
        self.tries = Tries(WORLD, STATE, [(("look", 0, 1), ("look", 0, 2), WAIT), GIVES])
        self.goes(0, "begun", "went")
        self.goes(1, "begun", "went", "went", "took", "done")
        # Its glance went on to behind the gift, so nothing has changed since.
        self.goes(0, "went", "slept", "asleep")

    def test_boxes_of_undone_deeds_wake(self):
        tried = (("try", (("look", 0, 2), WAIT), (("look", 0, 1), WAIT)),)
        self.tries = Tries(WORLD, STATE, [tried, GIVES])
        self.goes(0, "begun", "went", "went", "went", "went", "slept", "asleep")
        self.goes(1, "begun", "went", "went", "took", "done")
        self.goes(0, "begun")

    def test_looks_at_own_puts_do_not_wake(self):
        self.tries = Tries(WORLD, STATE, [(("put", 2, 0), ("look", 0, 2), WAIT), GIVES])
        self.goes(0, "begun", "went", "went", "slept", "asleep")
        self.goes(1, "begun", "went", "went", "took", "done")
        self.goes(0, "asleep")
        self.assertIs(self.tries.rests(), True)

    def test_no_looks_sleep_for_ever(self):
        self.tries = Tries(WORLD, STATE, [(WAIT,)])
        self.goes(0, "begun", "slept", "asleep", "asleep")
        self.assertEqual(all_told(self.tries, 1), [[("begin", 0), ("fall", 0)], [], STATE, True, 0, None])

    def test_rests_only_where_each_is_done_or_sleeps(self):
        self.tries = Tries(WORLD, STATE, [(WAIT,), ()])
        self.goes(0, "begun", "slept")
        self.assertIs(self.tries.rests(), False)
        self.goes(1, "begun")
        self.assertIs(self.tries.rests(), False)
        self.goes(1, "done")
        self.assertIs(self.tries.rests(), True)


class PatienceTest(unittest.TestCase):
    def tried(self, patience, *dealings):
        self.tries = Tries(WORLD, STATE, list(dealings), patience)

    def goes(self, i, *words):
        for word in words:
            self.assertEqual(self.tries.go(i), word)

    def test_no_patience_at_all(self):
        self.tried(0, ADD_ONE, ADD_ONE, LOOKS)
        self.goes(1, "begun")
        self.goes(0, "held", "held")
        self.goes(2, "held")
        self.goes(1, "went", "went", "went", "went", "took")
        self.goes(0, "held")
        self.goes(1, "done", "idle")
        self.goes(2, "held")
        self.goes(0, "begun", "went", "went", "went", "went", "took", "done")
        self.goes(2, "begun", "went", "went", "done")
        self.assertEqual((self.tries.order(), self.tries.now()), ([1, 0, 2], (6, 5, 0)))

    def test_none_at_all_is_not_nought(self):
        self.tried(None, ADD_ONE, ADD_ONE)
        self.goes(0, "begun")
        self.goes(1, "begun")

    def test_one_that_sleeps_leaves_the_row_and_stands_behind_when_it_wakes(self):
        self.tried(0, TAKES, GIVES, LOOKS)
        self.goes(0, "begun")
        self.goes(1, "held")
        self.goes(0, "went", "went", "slept", "asleep")
        self.goes(1, "begun", "went", "went", "took", "done")
        self.goes(2, "begun")
        self.goes(0, "held")
        self.goes(2, "went", "went", "done")
        self.goes(0, "begun", "went", "went", "went", "went", "took", "done")

    def test_stands_there_from_the_fall_on(self):
        self.tried(1, ADD_ONE, ADD_ONE, ADD_ONE)
        for i in (0, 1, 2):
            self.goes(i, "begun", "went", "went", "went", "went")
        self.goes(2, "took", "done")
        self.goes(0, "fell")
        self.goes(1, "fell", "held")
        self.goes(0, "begun")
        self.goes(1, "held")
        self.goes(0, "went", "went", "went", "went", "took", "done")
        self.goes(1, "begun", "went", "went", "went", "went", "took", "done")
        self.assertEqual([self.tries.falls(i) for i in range(3)], [1, 1, 0])
        self.assertEqual((self.tries.now(), self.tries.order()), ((0, 5, 0), [2, 0, 1]))

    def test_taking_of_others_is_held_while_the_first_has_an_open_attempt(self):
        self.tried(1, ADD_ONE, ADD_ONE, GIVES)
        for i in (0, 1):
            self.goes(i, "begun", "went", "went", "went", "went")
        self.goes(1, "took", "done")
        self.goes(0, "fell")
        self.goes(2, "begun", "went", "went")
        log = self.tries.log()
        self.goes(0, "begun")
        self.goes(2, "held", "held")
        self.assertEqual(self.tries.log(), log + [("begin", 3)])
        self.goes(0, "went", "went", "went", "went", "took")
        self.goes(2, "held")
        self.goes(0, "done")
        self.goes(2, "took", "done")
        self.assertEqual(self.tries.falls(2), 0)

    def test_taking_of_others_goes_on_while_the_first_has_none(self):
        self.tried(1, ADD_ONE, ADD_ONE, GIVES)
        for i in (0, 1):
            self.goes(i, "begun", "went", "went", "went", "went")
        self.goes(1, "took", "done")
        self.goes(0, "fell")
        self.goes(2, "begun", "went", "went", "took", "done")

    def test_taking_without_puts_and_writing_are_not_held(self):
        self.tried(1, ADD_ONE, ADD_ONE, LOOKS, GIVES)
        for i in (0, 1):
            self.goes(i, "begun", "went", "went", "went", "went")
        self.goes(1, "took", "done")
        self.goes(0, "fell")
        self.goes(3, "begun", "went", "went", "took")
        self.goes(0, "begun")
        self.goes(2, "begun", "went", "went", "done")
        self.goes(3, "done")
        self.goes(0, "went", "went", "went", "went", "took", "done")

    def test_the_first_is_held_where_a_box_is_held(self):
        self.tried(1, ADD_ONE, BLIND, ADD_ONE)
        self.goes(0, "begun", "went", "went", "went", "went")
        self.goes(2, "begun", "went", "went", "went", "went", "took", "done")
        self.goes(0, "fell")
        self.goes(1, "begun", "went", "went", "went", "took")
        log = self.tries.log()
        self.goes(0, "begun", "held", "held")
        self.goes(1, "wrote")
        self.goes(0, "held")
        self.assertEqual(self.tries.log(), log + [("begin", 3)])
        self.goes(1, "done")
        self.goes(0, "went", "went", "went", "went", "took", "done")
        self.assertEqual((self.tries.falls(0), self.tries.now()), (1, (4, 5, 3)))

    def test_the_taking_of_the_first_is_held_where_a_box_is_held(self):
        self.tried(1, (("set", 0, 1), ("put", 2, 0), ("put", 1, 0)), BLIND, GIVES)
        self.goes(2, "begun", "went", "went", "took")
        self.goes(0, "begun", "went", "went", "went", "fell")
        self.goes(2, "done")
        self.goes(1, "begun", "went", "went", "went", "took")
        log = self.tries.log()
        self.goes(0, "begun", "went", "went", "went", "held", "held")
        self.assertEqual(self.tries.log(), log + [("begin", 3)])
        self.goes(1, "wrote")
        self.goes(0, "held")
        self.goes(1, "done")
        self.goes(0, "took", "wrote", "done")
        self.assertEqual(self.tries.now(), (3, 1, 1))

    def test_the_taking_of_the_first_without_puts_is_not_held(self):
        self.tried(1, (("look", 0, 2),), BLIND, GIVES)
        self.goes(2, "begun", "went", "went", "took")
        self.goes(0, "begun", "fell")
        self.goes(2, "done")
        self.goes(1, "begun", "went", "went", "went")
        self.goes(0, "begun", "went")
        self.goes(1, "held")
        self.goes(0, "done")
        self.goes(1, "took", "wrote", "done")

    def test_falls_are_counted_anew_behind_a_waking(self):
        self.tried(2, (("look", 0, 2), ("look", 0, 0), WAIT), GIVES, BLIND, BLIND)
        self.goes(1, "begun", "went", "went", "took")
        self.goes(0, "begun", "fell", "begun")
        self.goes(1, "done")
        self.goes(0, "went", "went", "slept", "asleep")
        self.goes(2, "begun", "went", "went", "went", "took", "wrote")
        # It woke, and its one fall of before counts no more: it stands in no row behind the next one.
        self.goes(0, "begun", "fell", "begun")
        self.goes(3, "begun", "went", "went", "went", "fell")
        self.goes(2, "done")
        self.goes(0, "went", "went", "slept", "asleep")
        self.assertEqual(self.tries.falls(0), 2)

    def test_behind_a_waking_so_many_falls_end_the_patience_again(self):
        for patience in (1, 2, 3):
            self.tried(patience, (("look", 0, 0), WAIT), BLIND)
            self.goes(0, "begun", "went", "slept")
            self.goes(1, "begun", "went", "went", "went", "took", "wrote")
            self.goes(0, *["begun", "fell"] * patience)
            self.goes(0, "begun", "held", "held")
            self.assertEqual(self.tries.falls(0), patience)
            self.goes(1, "done")
            self.goes(0, "went", "slept", "asleep")

    def test_falls_in_all_go_on_being_counted(self):
        self.tried(1, (("look", 0, 2), WAIT), GIVES, BLIND)
        self.goes(1, "begun", "went", "went", "took")
        self.goes(0, "begun", "fell", "begun", "held")
        self.goes(1, "done")
        self.goes(0, "went", "slept", "asleep")
        self.goes(2, "begun", "went", "went", "went", "took", "wrote")
        self.goes(0, "asleep")
        self.assertEqual(self.tries.falls(0), 1)

    def test_the_first_that_sleeps_lets_the_next_be_first(self):
        self.tried(1, (("look", 0, 0), WAIT), ADD_ONE, ADD_ONE)
        for i in (1, 2):
            self.goes(i, "begun", "went", "went", "went", "went")
        self.goes(2, "took")
        self.goes(0, "begun", "fell")
        self.goes(1, "fell", "held")
        self.goes(2, "done")
        self.goes(0, "begun", "went")
        self.goes(1, "held")
        self.goes(0, "slept", "asleep")
        self.goes(1, "begun", "went", "went", "went", "went", "took", "done")
        self.goes(0, "begun", "went", "slept")


class WovenTriesTest(unittest.TestCase):
    def check_promises(self, case, tries):
        """What holds behind each step, whatever the weaving was."""
        world, state, dealings = case
        order = tries.order()
        reached = state
        for i in order:
            told = alone(world, dealings[i], reached)
            self.assertEqual((told[0], told[2]), ("done", tries.hands(i)))
            reached = told[1]
        self.assertEqual(in_row(world, dealings, state, order), ("done", reached))
        self.assertEqual(sorted(order), [i for i in range(len(dealings)) if tries.hands(i) is not None])
        return reached

    def weave(self, source, case, patience, steps):
        world, state, dealings = case
        tries, other = Tries(world, state, dealings, patience), otherwise.Tries(world, state, dealings, patience)
        taken = {}
        for step in range(steps):
            i = woven_turn(source, tries, len(dealings))
            word = tries.go(i)
            self.assertEqual(word, other.go(i), (case, patience))
            self.words[word] = self.words.get(word, 0) + 1
            taken[i] = word in ("took", "wrote") or (taken.get(i) and word in ("idle", "held", "asleep"))
            reached = self.check_promises(case, tries)
            if not any(taken.values()):
                self.assertEqual(reached, tries.now())
            for j in range(len(dealings)):
                if other.sleeps(j):
                    self.assertEqual(alone(world, dealings[j], reached)[0], "waits")
            if step % 7 == 0:
                self.assertEqual(all_told(tries, len(dealings)), all_told(other, len(dealings)))
        self.assertEqual(all_told(tries, len(dealings)), all_told(other, len(dealings)))
        return tries

    def test_each_step_with_and_without_patience(self):
        source = random.Random(82)
        self.words = {}
        for times in range(1000):
            case = woven_case(source)
            tries = self.weave(source, case, source.choice([None, 0, 1, 1, 1, 2, 20]), source.choice([20, 60]))
            world, state, dealings = case
            log = tries.log()
            self.assertTrue(is_log(world, log))
            if len(attempts(log)) <= 8:
                self.assertIsNone(first_bad(world, state, log))
        self.assertEqual(len(self.words), 10)
        self.assertGreater(min(self.words.values()), 100)

    def test_all_weavings_of_two(self):
        for one, other in itertools.product([ADD_ONE[:1] + (("put", 0, 0),), GIVES, TAKES[:2] + (WAIT,)], repeat=2):
            for patience in (None, 0, 1):
                for weaving in itertools.product([0, 1], repeat=8):
                    tries = Tries(WORLD, STATE, [one, other], patience)
                    for i in weaving:
                        tries.go(i)
                    self.check_promises((WORLD, STATE, [one, other]), tries)
                    self.assertIsNone(first_bad(WORLD, STATE, tries.log()))

    def test_events_that_each_step_writes_into_the_log(self):
        source = random.Random(83)
        for times in range(60):
            world, state, dealings = woven_case(source)
            tries = Tries(world, state, dealings)
            for step in range(60):
                before = len(tries.log())
                i = source.randrange(len(dealings))
                word = tries.go(i)
                told = tries.log()[before:]
                kinds = [event[0] for event in told]
                expected = {"begun": [["begin"]], "slept": [["fall"]], "wrote": [[]], "idle": [[]], "asleep": [[]]}
                if word in expected:
                    self.assertIn(kinds, expected[word])
                if word == "took":
                    self.assertEqual(set(kinds), {"put"})
                    self.assertEqual(told, sorted(told, key=lambda event: event[2]))
                if word == "fell":
                    self.assertEqual(kinds[-1], "fall")
            self.assertTrue(is_log(world, tries.log()))

    def test_with_a_patience_none_falls_more_often(self):
        source = random.Random(84)
        fell = {}
        for times in range(500):
            world, state, dealings = woven_case(source)
            patience = source.randint(0, 4)
            tries = Tries(world, state, dealings, patience)
            since = [0] * len(dealings)
            for step in range(120):
                i = woven_turn(source, tries, len(dealings))
                word = tries.go(i)
                since[i] = {"fell": since[i] + 1, "slept": 0}.get(word, since[i])
                self.assertLessEqual(since[i], patience)
                fell[since[i]] = fell.get(since[i], 0) + 1
        self.assertGreater(fell[1], 100)

    def test_with_a_patience_it_rests_at_last(self):
        source = random.Random(85)
        for times in range(400):
            world, state, dealings = woven_case(source)
            patience = source.choice([0, 1, 2, 5, 20])
            tries = Tries(world, state, dealings, patience)
            turns = 0
            while not tries.rests():
                turns += 1
                self.assertLess(turns, 500)
                for i in source.sample(range(len(dealings)), len(dealings)):
                    for step in range(source.randint(1, 3)):
                        tries.go(i)
            before = all_told(tries, len(dealings))
            for i in range(len(dealings)):
                self.assertEqual(tries.go(i), "asleep" if tries.hands(i) is None else "idle")
            self.assertEqual(all_told(tries, len(dealings)), before)
            reached = self.check_promises((world, state, dealings), tries)
            self.assertEqual(reached, tries.now())
            for i in range(len(dealings)):
                if tries.hands(i) is None:
                    self.assertEqual(alone(world, dealings[i], reached)[0], "waits")

    def test_patiences_up_to_twenty(self):
        # While dealing 1 holds box 0, dealing 0 falls as often as it is let.
        for patience in range(0, 21):
            tries = Tries(WORLD, STATE, [(("look", 0, 0),), BLIND], patience)
            for step in range(5):
                tries.go(1)
            words = [tries.go(0) for step in range(50)]
            if patience == 0:
                self.assertEqual(words, ["held"] * 50)
            else:
                self.assertEqual(words, ["begun", "fell"] * patience + ["begun"] + ["held"] * (49 - 2 * patience))
            self.assertEqual(tries.falls(0), patience)

    def test_the_order_is_good_for_the_log_of_the_done_ones(self):
        source = random.Random(86)
        for times in range(200):
            world, state, dealings = woven_case(source)
            tries = Tries(world, state, dealings)
            owners = {}
            for step in range(50):
                i = source.randrange(len(dealings))
                tries.go(i)
                for event in tries.log():
                    owners.setdefault(event[1], i)
            done = [a for word, a, *rest in tries.log() if word == "done"]
            by_dealing = {owners[a]: a for a in done}
            self.assertTrue(is_order(world, state, tries.log(), False, [by_dealing[i] for i in tries.order()]))

    def test_two_by_turns(self):
        source = random.Random(87)
        for times in range(60):
            cases = [woven_case(source) for which in range(2)]
            patience = source.choice([None, 0, 1])
            pair = [Tries(*case, patience) for case in cases]
            apart = [Tries(*case, patience) for case in cases]
            rows = [[source.randrange(len(case[2])) for step in range(60)] for case in cases]
            words = [[pair[which].go(rows[which][step]) for which in range(2)] for step in range(60)]
            for which in range(2):
                self.assertEqual([apart[which].go(i) for i in rows[which]], [word[which] for word in words])
                many = len(cases[which][2])
                self.assertEqual(all_told(apart[which], many), all_told(pair[which], many))

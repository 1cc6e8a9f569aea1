import random
import unittest

from oneglance.errors import GlanceError, NoAttempt, NoStep
from oneglance.good import first_bad
from oneglance.keeper import Keeper
from oneglance.logs import is_log
from oneglance.orders import is_order
from tests import otherwise_tries as otherwise

WORLD = (3, 10)
STATE = (4, 5, 6)
CALLS = ["begin", "look", "put", "take", "write", "fall"]
ERRORS = {"NoAttempt": NoAttempt, "NoStep": NoStep}


def picture(keeper, boxes):
    """All that a keeper tells of itself."""
    return (keeper.log(), keeper.order(), keeper.now(), keeper.clock(), [keeper.mark(b) for b in range(boxes)])


def writes(keeper, a, *pairs):
    """A whole attempt that puts these and is done."""
    keeper.begin(a)
    for b, v in pairs:
        keeper.put(a, b, v)
    keeper.take(a)
    while pairs and keeper.log()[-1] != ("done", a):
        keeper.write(a)


def woven_call(source, world, most):
    a = source.randrange(most)
    b = source.randrange(world[0])
    word = source.choices(CALLS, [4, 10, 6, 3, 6, 1])[0]
    if word == "look":
        return (word, a, b)
    if word == "put":
        return (word, a, b, source.randrange(world[1]))
    return (word, a)


def is_refused(other, row):
    try:
        other.refuse(*row[:2])
    except otherwise.Refused:
        return True
    return False


def call(keeper, row):
    return getattr(keeper, row[0])(*row[1:])


class KeeperTest(unittest.TestCase):
    def setUp(self):
        self.keeper = Keeper(WORLD, STATE)

    def says(self, row, told):
        self.assertEqual(call(self.keeper, row), told, row)

    def look(self, a, b, number):
        self.says(("look", a, b), ("number", number))

    def look_falls(self, a, b):
        self.says(("look", a, b), ("falls",))
        self.assertEqual(self.keeper.log()[-1], ("fall", a))
        self.assertRaises(NoAttempt, self.keeper.look, a, b)

    def take_falls(self, a):
        self.says(("take", a), "falls")
        self.assertEqual(self.keeper.log()[-1], ("fall", a))
        self.assertRaises(NoAttempt, self.keeper.take, a)

    def takes(self, a, *pairs):
        for b, v in pairs:
            self.says(("put", a, b, v), None)
        self.says(("take", a), "taken")

    def begins(self, *some):
        for a in some:
            self.says(("begin", a), None)

    def test_at_first(self):
        self.assertEqual(picture(self.keeper, 3), ([], [], STATE, 0, [0, 0, 0]))

    def test_begin(self):
        self.begins(7, 0, 199)
        self.assertEqual(self.keeper.log(), [("begin", 7), ("begin", 0), ("begin", 199)])
        self.assertEqual(self.keeper.order(), [7, 0, 199])

    def test_look_tells_the_number_there(self):
        self.begins(1)
        for b in range(3):
            self.look(1, b, STATE[b])
        self.look(1, 0, 4)
        self.assertEqual(self.keeper.log()[-2:], [("look", 1, 2, 6), ("look", 1, 0, 4)])

    def test_look_tells_own_puts(self):
        self.begins(1)
        self.says(("put", 1, 2, 9), None)
        self.look(1, 2, 9)
        self.says(("put", 1, 2, 0), None)
        self.look(1, 2, 0)
        self.assertEqual(self.keeper.now(), STATE)
        self.assertEqual(self.keeper.log()[1:], [("put", 1, 2, 9), ("look", 1, 2, 9), ("put", 1, 2, 0),
                                                 ("look", 1, 2, 0)])

    def test_own_puts_are_told_though_another_holds_the_box(self):
        self.begins(1, 2)
        self.takes(2, (0, 9))
        self.says(("put", 1, 0, 3), None)
        self.look(1, 0, 3)

    def test_own_puts_are_told_though_the_mark_is_above(self):
        self.begins(1)
        self.look(1, 1, 5)
        writes(self.keeper, 2, (1, 9), (0, 9))
        self.says(("put", 1, 0, 3), None)
        self.look(1, 0, 3)
        self.take_falls(1)

    def test_looks_at_own_puts_are_not_looked_into(self):
        self.begins(1)
        self.says(("put", 1, 0, 3), None)
        self.look(1, 0, 3)
        writes(self.keeper, 2, (0, 9))
        writes(self.keeper, 3, (2, 8))
        self.look(1, 2, 8)
        self.says(("take", 1), "taken")

    def test_others_do_not_see_what_is_kept_aside(self):
        self.begins(1, 2)
        self.says(("put", 1, 0, 3), None)
        self.look(2, 0, 4)
        self.says(("fall", 1), None)
        self.look(2, 0, 4)

    def test_look_into_a_held_box_falls(self):
        self.begins(1, 2, 3)
        self.takes(2, (0, 9), (2, 9))
        self.look_falls(1, 2)
        self.says(("write", 2), "written")
        self.look_falls(3, 0)

    def test_look_into_a_box_that_is_let_go(self):
        self.begins(1, 2)
        self.takes(2, (0, 9))
        self.look(1, 1, 5)
        self.says(("write", 2), "done")
        self.look(1, 0, 9)

    def test_a_mark_above_the_glance_with_nothing_looked_into(self):
        self.begins(1)
        writes(self.keeper, 2, (0, 9))
        self.look(1, 0, 9)
        self.assertEqual(self.keeper.order(), [2, 1])

    def test_a_mark_above_the_glance_where_all_looked_into_is_still_so(self):
        self.begins(1)
        self.look(1, 1, 5)
        writes(self.keeper, 2, (0, 9))
        self.assertEqual(self.keeper.order(), [1, 2])
        self.look(1, 0, 9)
        self.assertEqual(self.keeper.order(), [2, 1])
        self.look(1, 1, 5)

    def test_a_mark_above_the_glance_where_one_looked_into_has_one_too(self):
        self.begins(1)
        self.look(1, 1, 5)
        writes(self.keeper, 2, (0, 9), (1, 9))
        self.look_falls(1, 0)

    def test_a_mark_above_the_glance_of_the_box_looked_into_before(self):
        self.begins(1)
        self.look(1, 0, 4)
        writes(self.keeper, 2, (0, 4))
        self.look_falls(1, 0)

    def test_a_mark_above_the_glance_where_one_looked_into_is_held(self):
        self.begins(1, 3)
        self.look(1, 1, 5)
        writes(self.keeper, 2, (0, 9))
        self.takes(3, (1, 7))
        self.look_falls(1, 0)

    def test_a_mark_not_above_the_glance_where_one_looked_into_is_held(self):
        self.begins(1, 3)
        self.look(1, 1, 5)
        self.takes(3, (1, 7))
        self.look(1, 0, 4)
        self.says(("write", 3), "done")
        self.look(1, 2, 6)
        self.assertEqual(self.keeper.order(), [1, 3])

    def test_the_glance_goes_to_the_clock(self):
        self.begins(1, 4)
        writes(self.keeper, 2, (0, 9))
        self.takes(4, (2, 9))
        self.look(1, 0, 9)
        self.says(("write", 4), "done")
        # The mark of what was taken ahead of the look is not above the glance any more.
        self.look(1, 2, 9)
        self.assertEqual(self.keeper.order(), [2, 4, 1])

    def test_take_without_puts_is_done(self):
        self.begins(1)
        self.says(("take", 1), "done")
        self.begins(2, 3)
        self.look(2, 0, 4)
        writes(self.keeper, 4, (0, 9))
        self.takes(3, (0, 8))
        self.says(("take", 2), "done")
        self.assertEqual((self.keeper.clock(), self.keeper.log()[-1]), (2, ("done", 2)))

    def test_take_falls_where_a_box_looked_into_is_held(self):
        self.begins(1, 2)
        self.look(1, 0, 4)
        self.takes(2, (0, 9))
        self.says(("put", 1, 1, 9), None)
        self.take_falls(1)

    def test_take_falls_where_a_box_put_into_is_held(self):
        self.begins(1, 2)
        self.takes(2, (0, 9))
        self.says(("put", 1, 0, 9), None)
        self.take_falls(1)
        self.assertEqual(self.keeper.clock(), 1)

    def test_take_falls_where_one_looked_into_has_a_mark_above_the_glance(self):
        self.begins(1)
        self.look(1, 0, 4)
        writes(self.keeper, 2, (0, 4))
        self.says(("put", 1, 1, 9), None)
        self.take_falls(1)

    def test_take_where_one_put_into_alone_has_a_mark_above_the_glance(self):
        self.begins(1)
        self.look(1, 1, 5)
        writes(self.keeper, 2, (0, 4))
        self.takes(1, (0, 8))
        self.says(("write", 1), "done")
        self.assertEqual((self.keeper.now(), self.keeper.order()), ((8, 5, 6), [2, 1]))

    def test_take_where_others_hold_other_boxes(self):
        self.begins(1, 2)
        self.takes(1, (0, 1))
        self.takes(2, (1, 2))
        self.assertEqual((self.keeper.clock(), self.keeper.now()), (2, STATE))
        self.says(("write", 2), "done")
        self.assertEqual([self.keeper.mark(b) for b in range(3)], [0, 2, 0])
        self.says(("write", 1), "done")
        self.assertEqual([self.keeper.mark(b) for b in range(3)], [1, 2, 0])
        self.assertEqual(self.keeper.order(), [1, 2])

    def test_writes_the_least_box_first(self):
        self.begins(1)
        self.takes(1, (2, 7), (0, 8), (1, 9))
        self.assertEqual((self.keeper.now(), self.keeper.clock()), (STATE, 1))
        for word, now, marks in (("written", (8, 5, 6), [1, 0, 0]), ("written", (8, 9, 6), [1, 1, 0]),
                                 ("done", (8, 9, 7), [1, 1, 1])):
            self.says(("write", 1), word)
            self.assertEqual((self.keeper.now(), [self.keeper.mark(b) for b in range(3)]), (now, marks))
        self.assertEqual(self.keeper.log()[-1], ("done", 1))

    def test_all_are_held_until_the_last_is_written(self):
        self.begins(1, 2, 3)
        self.takes(1, (0, 8), (1, 9))
        self.says(("write", 1), "written")
        self.look_falls(2, 0)
        self.says(("write", 1), "done")
        self.look(3, 0, 8)

    def test_the_last_put_into_a_box_is_written(self):
        self.begins(1)
        self.takes(1, (0, 8), (0, 9), (0, 7))
        self.says(("write", 1), "done")
        self.assertEqual(self.keeper.now(), (7, 5, 6))

    def test_fall_of_itself(self):
        self.begins(1, 2)
        self.says(("put", 1, 0, 8), None)
        self.says(("fall", 1), None)
        self.assertEqual(self.keeper.log()[-1], ("fall", 1))
        self.look(2, 0, 4)
        self.assertEqual(self.keeper.clock(), 0)

    def test_order_by_instants(self):
        self.begins(5, 9)
        self.look(9, 2, 6)
        self.begins(3)
        self.takes(3, (0, 1))
        self.begins(8)
        self.says(("fall", 5), None)
        self.assertEqual(self.keeper.order(), [5, 9, 3, 8])
        self.says(("write", 3), "done")
        self.look(9, 0, 1)
        # Of one instant those without puts stand as they began.
        self.assertEqual(self.keeper.order(), [5, 3, 9, 8])
        self.takes(8, (2, 2))
        self.assertEqual(self.keeper.order(), [5, 3, 9, 8])
        self.says(("take", 9), "done")
        self.assertEqual(self.keeper.order(), [5, 3, 9, 8])

    def test_log_as_it_happens(self):
        self.begins(1, 2)
        self.look(1, 0, 4)
        self.takes(2, (1, 3))
        self.look_falls(1, 1)
        self.says(("write", 2), "done")
        self.assertEqual(self.keeper.log(), [("begin", 1), ("begin", 2), ("look", 1, 0, 4), ("put", 2, 1, 3),
                                             ("fall", 1), ("done", 2)])

    def test_all_attempts(self):
        for a in range(200):
            self.begins(199 - a)
        self.assertEqual(self.keeper.order(), list(range(199, -1, -1)))
        for a in range(200):
            self.says(("take", a), "done")

    def test_kinds_of_what_is_told(self):
        self.begins(1)
        self.assertEqual([type(part) for part in picture(self.keeper, 3)], [list, list, tuple, int, list])
        self.assertIs(type(self.keeper.mark(0)), int)
        self.assertIs(type(self.keeper.look(1, 0)), tuple)


class RefusalTest(unittest.TestCase):
    def setUp(self):
        self.keeper = Keeper(WORLD, STATE)

    def refused(self, error, *rows):
        for row in rows:
            before = picture(self.keeper, 3)
            with self.assertRaises(GlanceError) as caught:
                call(self.keeper, row)
            self.assertIs(type(caught.exception), error, row)
            self.assertEqual(picture(self.keeper, 3), before)

    def others(self, a):
        return [("look", a, 0), ("put", a, 0, 1), ("take", a), ("fall", a)]

    def test_one_that_has_not_begun(self):
        self.refused(NoAttempt, ("write", 1), *self.others(1))
        self.keeper.begin(2)
        self.refused(NoAttempt, ("write", 1), *self.others(1))

    def test_one_that_began_already(self):
        self.keeper.begin(1)
        self.refused(NoAttempt, ("begin", 1))
        self.keeper.put(1, 0, 1)
        self.keeper.take(1)
        self.refused(NoAttempt, ("begin", 1))
        self.keeper.write(1)
        self.refused(NoAttempt, ("begin", 1))

    def test_one_that_is_done(self):
        writes(self.keeper, 1)
        writes(self.keeper, 2, (0, 1), (1, 2))
        for a in (1, 2):
            self.refused(NoAttempt, ("begin", a), ("write", a), *self.others(a))

    def test_one_that_has_fallen(self):
        self.keeper.begin(1)
        self.keeper.fall(1)
        self.keeper.begin(2)
        self.keeper.look(2, 0)
        self.keeper.put(2, 0, 1)
        writes(self.keeper, 3, (0, 4))
        self.keeper.take(2)
        self.keeper.begin(4)
        self.keeper.begin(5)
        self.keeper.put(5, 0, 1)
        self.keeper.take(5)
        self.keeper.look(4, 0)
        for a in (1, 2, 4):
            self.refused(NoAttempt, ("begin", a), ("write", a), *self.others(a))

    def test_one_that_has_taken(self):
        self.keeper.begin(1)
        self.keeper.put(1, 0, 1)
        self.keeper.put(1, 1, 1)
        self.keeper.take(1)
        self.refused(NoStep, *self.others(1))
        self.keeper.write(1)
        self.refused(NoStep, *self.others(1))
        self.assertEqual(self.keeper.write(1), "done")

    def test_write_of_one_that_has_not_taken(self):
        self.keeper.begin(1)
        self.refused(NoStep, ("write", 1))
        self.keeper.put(1, 0, 1)
        self.refused(NoStep, ("write", 1))
        self.assertEqual(self.keeper.take(1), "taken")

    def test_what_is_refused_changes_nothing_later(self):
        self.keeper.begin(1)
        self.keeper.look(1, 0)
        self.keeper.put(1, 1, 1)
        self.keeper.take(1)
        self.refused(NoStep, ("put", 1, 2, 8), ("put", 1, 1, 8))
        self.assertEqual((self.keeper.write(1), self.keeper.now()), ("done", (4, 1, 6)))


class WovenKeeperTest(unittest.TestCase):
    def follow(self, keeper, other, row):
        """One call of both; tells whether it was refused."""
        try:
            told = call(other, row)
        except otherwise.Refused as refused:
            with self.assertRaises(GlanceError) as caught:
                call(keeper, row)
            self.assertIs(type(caught.exception), ERRORS[str(refused)])
            return True
        self.assertEqual(call(keeper, row), told)
        return False

    def weave(self, seed, world, times, most, calls):
        source = random.Random(seed)
        words = {}
        for step in range(times):
            state = tuple(source.randrange(world[1]) for b in range(world[0]))
            keeper, other = Keeper(world, state), otherwise.Keeper(world, state)
            for more in range(calls):
                row = woven_call(source, world, most)
                # Mostly what is not refused, so that much is under way at once.
                while is_refused(other, row) and source.random() < 0.9:
                    row = woven_call(source, world, most)
                refused = self.follow(keeper, other, row)
                self.assertEqual(picture(keeper, world[0]), picture(other, world[0]))
                words[row[0], refused] = words.get((row[0], refused), 0) + 1
                self.assertTrue(is_order(world, state, keeper.log(), True, keeper.order()))
            self.assertTrue(is_log(world, keeper.log()))
            if most <= 8:
                self.assertIsNone(first_bad(world, state, keeper.log()))
            falls = keeper.log().count
            words["fall"] = words.get("fall", 0) + sum(falls(("fall", a)) for a in range(most))
        return words

    def test_woven_calls(self):
        for seed, world, most in ((71, (1, 2), 4), (72, (2, 3), 5), (73, (3, 2), 8), (74, (6, 1000), 8)):
            words = self.weave(seed, world, 250, most, 60)
            self.assertEqual(len(words), 13)
            self.assertGreater(min(words.values()), 20)

    def test_woven_calls_of_many(self):
        self.weave(75, (3, 3), 10, 30, 200)

    def test_two_by_turns(self):
        source = random.Random(76)
        for step in range(30):
            rows = [[woven_call(source, WORLD, 5) for more in range(60)] for keeper in range(2)]
            pair = [Keeper(WORLD, STATE), Keeper(WORLD, STATE)]
            alone = [Keeper(WORLD, STATE), Keeper(WORLD, STATE)]
            for more in range(60):
                for which in range(2):
                    self.quietly(pair[which], rows[which][more])
            for which in range(2):
                for row in rows[which]:
                    self.quietly(alone[which], row)
                self.assertEqual(picture(pair[which], 3), picture(alone[which], 3))

    def quietly(self, keeper, row):
        try:
            call(keeper, row)
        except GlanceError:
            pass

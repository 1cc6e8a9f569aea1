import random
import unittest

from oneglance.logs import ahead, attempts, end_of, is_log, outer_looks, puts_of
from tests import otherwise
from tests.things import ANYTHING, HUGE, ODD_PARTS, woven_logs

WORLD = (3, 7)
STATE = (4, 5, 0)
# The attempts' numbers neither rise nor fall with their begins or ends; 9 and 0 are open at the end.
LOG = [("begin", 150), ("look", 150, 0, 4), ("begin", 3), ("put", 3, 1, 6), ("put", 150, 2, 1), ("look", 3, 1, 6),
       ("look", 150, 2, 1), ("look", 150, 0, 4), ("put", 150, 0, 3), ("done", 150), ("begin", 9), ("look", 3, 0, 3),
       ("put", 3, 1, 2), ("look", 3, 1, 2), ("fall", 3), ("look", 9, 0, 3), ("begin", 0), ("put", 9, 0, 0)]
NUMBER_PARTS = [-1, -HUGE, HUGE, True, False, None, "0", "", (), (0,), [], [0]]


def bent_events(event):
    """The event bent in each of its parts, by a part more or fewer, and in its kind."""
    most = [None, 199, 2, 6]
    bent = [list(event), event + (0,), event[:-1], (event,), event[0], None]
    bent += [(word,) + event[1:] for word in ["", "Begin", "looks", "take", " done", None, 0, True, [], [event[0]], ()]]
    for place in range(1, len(event)):
        parts = NUMBER_PARTS + [most[place] + 1]
        bent += [event[:place] + (part,) + event[place + 1:] for part in parts]
        bent.append(event[:place] + event[place + 1:])
    return bent


class IsLogTest(unittest.TestCase):
    def holds(self, thing, world=WORLD):
        self.assertIs(is_log(world, thing), True, thing)

    def fails(self, thing, world=WORLD):
        self.assertIs(is_log(world, thing), False, thing)

    def test_no_events(self):
        self.holds([])

    def test_each_beginning_of_a_log(self):
        for many in range(len(LOG) + 1):
            self.holds(LOG[:many])

    def test_each_event_bent(self):
        for place, event in enumerate(LOG):
            for bent in bent_events(event):
                self.fails(LOG[:place] + [bent] + LOG[place + 1:])

    def test_a_truth_is_no_attempt_box_or_number(self):
        log = [("begin", 1), ("look", 1, 1, 1), ("put", 1, 1, 1), ("done", 1)]
        self.holds(log)
        for place, event in enumerate(log):
            for part in range(1, len(event)):
                bent = event[:part] + (True,) + event[part + 1:]
                self.fails(log[:place] + [bent] + log[place + 1:])

    def test_each_bound(self):
        for a in range(-3, 205):
            (self.holds if 0 <= a <= 199 else self.fails)([("begin", a)])
        for box in range(-3, 9):
            for word in ("look", "put"):
                (self.holds if 0 <= box <= 2 else self.fails)([("begin", 0), (word, 0, box, 0)])
        for number in range(-3, 12):
            for word in ("look", "put"):
                (self.holds if 0 <= number <= 6 else self.fails)([("begin", 0), (word, 0, 0, number)])

    def test_bounds_hang_on_the_world(self):
        for boxes in range(1, 7):
            for wheel in (2, 3, 999, 1000):
                for word in ("look", "put"):
                    self.holds([("begin", 0), (word, 0, boxes - 1, wheel - 1)], (boxes, wheel))
                    self.fails([("begin", 0), (word, 0, boxes, wheel - 1)], (boxes, wheel))
                    self.fails([("begin", 0), (word, 0, boxes - 1, wheel)], (boxes, wheel))

    def test_a_begin_left_out(self):
        for a in (150, 3, 9):
            self.fails([event for event in LOG if event != ("begin", a)])
        self.holds([event for event in LOG if event != ("begin", 0)])

    def test_each_event_left_out(self):
        for place in range(len(LOG)):
            thing = LOG[:place] + LOG[place + 1:]
            self.assertIs(is_log(WORLD, thing), otherwise.is_log(WORLD, thing), thing)

    def test_each_event_told_twice(self):
        for place in range(len(LOG)):
            for other in range(len(LOG) + 1):
                thing = LOG[:other] + [LOG[place]] + LOG[other:]
                self.assertIs(is_log(WORLD, thing), otherwise.is_log(WORLD, thing), thing)

    def test_each_two_events_exchanged(self):
        for one in range(len(LOG)):
            for other in range(one):
                thing = list(LOG)
                thing[one], thing[other] = thing[other], thing[one]
                self.assertIs(is_log(WORLD, thing), otherwise.is_log(WORLD, thing), thing)

    def test_begin_twice(self):
        self.fails([("begin", 1), ("begin", 1)])
        self.fails([("begin", 1), ("done", 1), ("begin", 1)])
        self.fails([("begin", 1), ("fall", 1), ("begin", 1)])
        self.holds([("begin", 1), ("begin", 2)])

    def test_nothing_behind_an_end(self):
        for end in ("done", "fall"):
            self.holds([("begin", 1), (end, 1)])
            for event in (("look", 1, 0, 0), ("put", 1, 0, 0), ("done", 1), ("fall", 1)):
                self.fails([("begin", 1), (end, 1), event])

    def test_nothing_ahead_of_a_begin(self):
        for event in (("look", 1, 0, 0), ("put", 1, 0, 0), ("done", 1), ("fall", 1)):
            self.fails([event])
            self.fails([event, ("begin", 1)])
            self.fails([("begin", 2), event])

    def test_look_into_a_box_with_an_own_put(self):
        for number in range(7):
            check = self.holds if number == 5 else self.fails
            check([("begin", 1), ("put", 1, 2, 5), ("look", 1, 2, number)])
            check([("begin", 1), ("put", 1, 2, 3), ("put", 1, 2, 5), ("look", 1, 2, number)])
            check([("begin", 1), ("put", 1, 2, 5), ("put", 1, 0, 1), ("look", 1, 2, number), ("done", 1)])
            check([("begin", 1), ("put", 1, 2, 5), ("look", 1, 2, 5), ("look", 1, 2, number)])

    def test_look_that_may_tell_any_number(self):
        for number in range(7):
            self.holds([("begin", 1), ("look", 1, 2, number)])
            self.holds([("begin", 1), ("look", 1, 2, 0), ("look", 1, 2, number)])
            self.holds([("begin", 1), ("put", 1, 0, 5), ("look", 1, 2, number)])
            self.holds([("begin", 1), ("begin", 2), ("put", 2, 2, 5), ("look", 1, 2, number)])
            self.holds([("begin", 1), ("look", 1, 2, number), ("put", 1, 2, 5)])
            self.holds([("begin", 2), ("put", 2, 2, 5), ("done", 2), ("begin", 1), ("look", 1, 2, number)])

    def test_put_of_nothing_is_a_put(self):
        self.fails([("begin", 1), ("put", 1, 2, 0), ("look", 1, 2, 5)])
        self.holds([("begin", 1), ("put", 1, 2, 0), ("look", 1, 2, 0)])

    def test_two_thousand_events(self):
        log = [("begin", 199)] + [("put", 199, 2, 6), ("look", 199, 2, 6)] * 999
        self.assertEqual(len(log), 1999)
        self.holds(log)
        self.holds(log + [("done", 199)])
        self.fails(log + [("put", 199, 2, 6), ("done", 199)])
        self.fails(log + [("look", 199, 2, 5)])

    def test_two_hundred_attempts(self):
        log = [event for a in range(200) for event in (("begin", a), ("fall", a))]
        self.holds(log)
        self.fails(log + [("begin", 200)])

    def test_a_tuple_is_no_list(self):
        self.fails(())
        self.fails(tuple(LOG))

    def test_anything(self):
        for thing in ANYTHING:
            self.assertIs(is_log(WORLD, thing), thing == [], thing)
            self.fails([thing])
            self.fails(LOG + [thing])
        for part in ODD_PARTS:
            self.fails([(part, 0)])
            self.fails([("begin", part)])
            self.fails([("begin", 0), ("put", 0, part, 0)])
            self.fails([("begin", 0), ("put", 0, 0, part)])

    def test_woven_logs_bent(self):
        source = random.Random(21)
        world = (2, 2)
        told = {True: 0, False: 0}
        for log in woven_logs(22, world, (0, 1), 400, 4, 16):
            self.holds(log, world)
            for step in range(10):
                thing = list(log)
                for place in source.sample(range(len(log)), min(len(log), source.randint(1, 2))):
                    thing[place] = source.choice(log)
                source.random() < 0.5 and source.shuffle(thing)
                answer = is_log(world, thing)
                self.assertIs(answer, otherwise.is_log(world, thing), thing)
                told[answer] += 1
        self.assertGreater(min(told.values()), 100)


class ToldOfLogsTest(unittest.TestCase):
    def test_attempts(self):
        self.assertEqual(attempts([]), [])
        self.assertEqual(attempts(LOG), [0, 3, 9, 150])
        self.assertEqual(attempts([("begin", 5), ("begin", 2), ("begin", 199), ("begin", 0)]), [0, 2, 5, 199])

    def test_end_of(self):
        self.assertEqual([end_of(LOG, a) for a in (150, 3, 9, 0)], ["done", "fall", "open", "open"])
        self.assertEqual([end_of(LOG[:9], a) for a in (150, 3)], ["open", "open"])
        self.assertEqual(end_of([("begin", 7)], 7), "open")
        self.assertEqual(end_of([("begin", 7), ("done", 7)], 7), "done")
        self.assertEqual(end_of([("begin", 7), ("fall", 7)], 7), "fall")

    def test_outer_looks(self):
        self.assertEqual(outer_looks(LOG, 150), [(0, 4), (0, 4)])
        self.assertEqual(outer_looks(LOG, 3), [(0, 3)])
        self.assertEqual(outer_looks(LOG, 9), [(0, 3)])
        self.assertEqual(outer_looks(LOG, 0), [])

    def test_outer_looks_stand_in_order(self):
        log = [("begin", 1), ("look", 1, 2, 5), ("look", 1, 0, 1), ("look", 1, 2, 4), ("look", 1, 2, 5)]
        self.assertEqual(outer_looks(log, 1), [(2, 5), (0, 1), (2, 4), (2, 5)])

    def test_look_ahead_of_a_put_stays_outer(self):
        log = [("begin", 1), ("look", 1, 2, 5), ("put", 1, 2, 3), ("look", 1, 2, 3), ("look", 1, 1, 0)]
        self.assertEqual(outer_looks(log, 1), [(2, 5), (1, 0)])

    def test_look_behind_a_put_of_another_one_is_outer(self):
        log = [("begin", 2), ("begin", 1), ("put", 2, 2, 3), ("look", 1, 2, 3)]
        self.assertEqual(outer_looks(log, 1), [(2, 3)])

    def test_puts_of(self):
        self.assertEqual(puts_of(LOG, 150), [(0, 3), (2, 1)])
        self.assertEqual(puts_of(LOG, 3), [(1, 2)])
        self.assertEqual(puts_of(LOG, 9), [(0, 0)])
        self.assertEqual(puts_of(LOG, 0), [])

    def test_puts_rise_by_boxes_and_tell_the_last(self):
        log = [("begin", 1), ("put", 1, 2, 1), ("put", 1, 0, 6), ("put", 1, 2, 5), ("put", 1, 1, 0), ("put", 1, 0, 2)]
        self.assertEqual(puts_of(log, 1), [(0, 2), (1, 0), (2, 5)])

    def test_ahead(self):
        self.assertEqual(ahead([]), [])
        self.assertEqual(ahead(LOG), [(3, 0), (150, 0), (150, 9)])

    def test_ahead_by_done_and_by_fall(self):
        for end in ("done", "fall"):
            self.assertEqual(ahead([("begin", 7), (end, 7), ("begin", 2)]), [(7, 2)])
            self.assertEqual(ahead([("begin", 7), ("begin", 2), (end, 7), (end, 2)]), [])

    def test_ahead_of_all_that_begin_later(self):
        log = [event for a in (5, 1, 3) for event in (("begin", a), ("done", a))]
        self.assertEqual(ahead(log), [(1, 3), (5, 1), (5, 3)])

    def test_ahead_of_many(self):
        log = [event for a in reversed(range(200)) for event in (("begin", a), ("fall", a))]
        self.assertEqual(ahead(log), [(one, other) for one in range(200) for other in range(one)])

    def test_kinds_of_what_is_told(self):
        for told in (attempts(LOG), outer_looks(LOG, 150), puts_of(LOG, 150), ahead(LOG)):
            self.assertIs(type(told), list)
        for told in outer_looks(LOG, 150) + puts_of(LOG, 150) + ahead(LOG):
            self.assertIs(type(told), tuple)
        self.assertIs(type(end_of(LOG, 150)), str)

    def test_woven_logs(self):
        for log in woven_logs(23, WORLD, STATE, 300, 8, 40):
            self.assertEqual(attempts(log), otherwise.attempts(log))
            self.assertEqual(ahead(log), otherwise.ahead(log))
            for a in otherwise.attempts(log):
                self.assertEqual(end_of(log, a), otherwise.end_of(log, a))
                self.assertEqual(outer_looks(log, a), otherwise.outer_looks(log, a))
                self.assertEqual(puts_of(log, a), otherwise.puts_of(log, a))

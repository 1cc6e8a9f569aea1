import random
import unittest

from oneglance.errors import TooMany
from oneglance.good import first_bad, good, shows_none
from oneglance.orders import is_order
from tests import otherwise
from tests.things import ANYTHING, HUGE, ODD_PARTS, woven_logs

WORLD = (2, 5)
STATE = (0, 0)
# 3 and 1 both look at the 0 and put another number there: a lost update.
LOST = [("begin", 3), ("begin", 1), ("look", 3, 0, 0), ("look", 1, 0, 0), ("put", 3, 0, 1), ("put", 1, 0, 2),
        ("done", 3), ("done", 1)]
LOST_TABLE = [((), (0, 0)), ((1,), (2, 0)), ((3,), (1, 0))]
# 7 sees half of what 4 has put, 2 begins behind both.
TORN = [("begin", 4), ("begin", 7), ("look", 7, 0, 0), ("put", 4, 0, 1), ("put", 4, 1, 1), ("done", 4),
        ("look", 7, 1, 1), ("fall", 7), ("begin", 2)]
TORN_TABLE = [((), (0, 0)), ((4,), (1, 1))]
# Good only as 6, 0, 5: 0 sees what 6 has put, and 5 what 0 has put.
CHAIN = [("begin", 5), ("begin", 0), ("begin", 6), ("put", 6, 0, 1), ("look", 0, 0, 1), ("put", 0, 1, 2),
         ("look", 5, 1, 2), ("done", 5), ("done", 0), ("done", 6)]


def begins(many):
    return [("begin", a) for a in range(many)]


class GoodTest(unittest.TestCase):
    def has_good(self, log, every, order, world=WORLD, state=STATE):
        self.assertEqual(good(world, state, log, every), ("good", order))

    def has_none(self, log, every, table, world=WORLD, state=STATE):
        told = good(world, state, log, every)
        self.assertEqual((told[0], sorted(told[1])), ("none", table))
        self.assertIs(shows_none(world, state, log, every, told[1]), True)

    def test_no_attempts(self):
        for every in (True, False):
            self.has_good([], every, [])
            self.assertIs(shows_none(WORLD, STATE, [], every, [((), STATE)]), False)
            self.assertIs(shows_none(WORLD, STATE, [], every, []), False)

    def test_one_attempt(self):
        self.has_good([("begin", 4)], True, [4])
        self.has_good([("begin", 4)], False, [])
        self.has_good([("begin", 4), ("look", 4, 1, 0), ("done", 4)], False, [4])
        self.has_none([("begin", 4), ("look", 4, 1, 3), ("fall", 4)], True, [((), (0, 0))])
        self.has_good([("begin", 4), ("look", 4, 1, 3), ("fall", 4)], False, [])

    def test_the_only_good_order(self):
        self.has_good(CHAIN, True, [6, 0, 5])
        self.has_good(CHAIN, False, [6, 0, 5])

    def test_time_forbids_what_looks_would_allow(self):
        late = [event for event in CHAIN if event[1] != 5] + [("begin", 5), ("look", 5, 1, 0), ("done", 5)]
        self.has_none(late, True, [((), (0, 0)), ((0, 6), (1, 2)), ((6,), (1, 0))])

    def test_lost_update(self):
        for every in (True, False):
            self.has_none(LOST, every, LOST_TABLE)
        self.has_good(LOST[:7], False, [3])
        self.has_good(LOST[:7], True, [1, 3])

    def test_torn_look(self):
        self.has_none(TORN, True, TORN_TABLE)
        self.has_good(TORN, False, [4])

    def test_open_and_fallen_ones_leave_the_state(self):
        log = [("begin", 0), ("begin", 1), ("put", 0, 0, 3), ("put", 1, 0, 4), ("fall", 1), ("begin", 2),
               ("look", 2, 0, 2)]
        self.has_none(log, True, [((), (0, 0)), ((0,), (0, 0)), ((0, 1), (0, 0)), ((1,), (0, 0))])

    def test_kinds_of_what_is_told(self):
        told = good(WORLD, STATE, CHAIN, True)
        self.assertEqual([type(part) for part in (told,) + told], [tuple, str, list])
        told = good(WORLD, STATE, LOST, True)
        self.assertEqual([type(part) for part in (told,) + told], [tuple, str, list])
        for row in told[1]:
            self.assertEqual([type(part) for part in (row,) + row], [tuple, tuple, tuple])

    def test_eight_and_more_asked(self):
        self.assertIs(is_order(WORLD, STATE, begins(8), True, good(WORLD, STATE, begins(8), True)[1]), True)
        for many in (9, 10, 200):
            self.assertRaises(TooMany, good, WORLD, STATE, begins(many), True)
            self.has_good(begins(many), False, [])
        done = [("done", a) for a in range(9)]
        self.assertEqual(good(WORLD, STATE, begins(12) + done[:8], False)[0], "good")
        self.assertRaises(TooMany, good, WORLD, STATE, begins(12) + done[:8], True)
        self.assertRaises(TooMany, good, WORLD, STATE, begins(12) + done, False)

    def test_eight_in_the_worst_way(self):
        world = (6, 10)
        log = begins(8) + [("put", a, (a + step) % 6, a + 1) for a in range(7) for step in range(2)]
        log += [("look", 7, 0, 9)] + [("done", a) for a in range(8)]
        told = good(world, (0,) * 6, log, True)
        self.assertEqual(told[0], "none")
        self.assertIs(shows_none(world, (0,) * 6, log, True, told[1]), True)
        self.assertEqual(first_bad(world, (0,) * 6, log), 23)

    def test_woven_logs(self):
        told = {"good": 0, "none": 0}
        for world, state, seed in (((2, 2), (0, 1), 41), ((1, 3), (2,), 42), ((3, 2), (0, 0, 1), 43)):
            for log in woven_logs(seed, world, state, 400, 5, 26):
                for every in (True, False):
                    answer = good(world, state, log, every)
                    orders = otherwise.good_orders(state, log, every)
                    told[answer[0]] += 1
                    if answer[0] == "good":
                        self.assertIn(answer[1], orders)
                        self.assertIs(is_order(world, state, log, every, answer[1]), True)
                    else:
                        self.assertEqual(orders, [])
                        self.assertTrue(otherwise.shows_none(state, log, every, answer[1]))
                        self.assertIs(shows_none(world, state, log, every, answer[1]), True)
        self.assertGreater(min(told.values()), 200)


class ShowsNoneTest(unittest.TestCase):
    def shows(self, thing, log=LOST, every=True, state=STATE):
        self.assertIs(shows_none(WORLD, state, log, every, thing), True, thing)

    def fails(self, thing, log=LOST, every=True, state=STATE):
        self.assertIs(shows_none(WORLD, state, log, every, thing), False, thing)

    def test_tables(self):
        self.shows(LOST_TABLE)
        self.shows(LOST_TABLE, LOST, False)
        self.shows(TORN_TABLE, TORN)
        self.fails(TORN_TABLE, TORN, False)
        self.fails(TORN_TABLE)

    def test_another_first_state(self):
        self.fails(LOST_TABLE, LOST, True, (0, 1))
        self.fails([((), (1, 0))], LOST, True, (0, 0))
        self.shows([((), (1, 0))], LOST, True, (1, 0))

    def test_a_row_left_out(self):
        for table, log in ((LOST_TABLE, LOST), (TORN_TABLE, TORN)):
            for place in range(len(table)):
                self.fails(table[:place] + table[place + 1:], log)
        self.fails([])

    def test_rows_turned_about_or_told_twice(self):
        self.shows(LOST_TABLE[::-1])
        self.shows(LOST_TABLE * 2)
        for row in LOST_TABLE:
            self.shows([row] + LOST_TABLE)

    def test_a_row_more_that_is_closed(self):
        self.shows(LOST_TABLE + [((), (4, 4))])
        self.shows(LOST_TABLE + [((3,), (4, 1))])
        self.shows(LOST_TABLE + [((1,), (3, 0)), ((1,), (1, 4))])

    def test_a_row_more_that_leads_elsewhere(self):
        more = [((), (0, 4)), ((1,), (2, 4)), ((3,), (1, 4))]
        self.shows(LOST_TABLE + more)
        self.fails(LOST_TABLE + more[:1])
        self.fails(LOST_TABLE + more[:2])
        self.fails(LOST_TABLE + [more[0], more[2]])
        self.fails(LOST_TABLE + [((1,), (0, 0))])

    def test_a_row_with_all(self):
        for state in ((0, 0), (1, 0), (2, 0), (4, 4)):
            self.fails(LOST_TABLE + [((1, 3), state)])
        self.fails(LOST_TABLE + [((1,), (0, 0)), ((1, 3), (1, 0))])

    def test_each_part_of_a_row_bent(self):
        for row in LOST_TABLE:
            bent = [list(row), row + ((),), row[:1], row[1:], (row,), (list(row[0]), row[1]), (row[0], list(row[1]))]
            bent += [(part, row[1]) for part in ODD_PARTS if part != ()]
            bent += [(row[0], part) for part in ODD_PARTS] + ODD_PARTS
            bent += [((a,), row[1]) for a in ODD_PARTS + [0, 2, 200]]
            bent += [(row[0], (part, 0)) for part in ODD_PARTS + [5]]
            bent += [(row[0], (0, part)) for part in ODD_PARTS + [5]]
            bent += [(row[0], state) for state in ((), (0,), (0, 0, 0))]
            bent += [((1, 1), row[1]), ((3, 1), row[1]), ((1, 2), row[1]), ((1, 3, 3), row[1]), ((0, 1), row[1])]
            for other in bent:
                self.fails(LOST_TABLE + [other])
                self.fails([other] + LOST_TABLE)
                self.fails([other if same == row else same for same in LOST_TABLE])

    def test_truths_are_no_attempts_and_no_numbers(self):
        self.shows([((), (0, 0)), ((1,), (2, 0)), ((3,), (1, 0))])
        self.fails([((), (0, 0)), ((True,), (2, 0)), ((3,), (1, 0))])
        self.fails([((), (0, 0)), ((1,), (2, 0)), ((3,), (True, 0))])
        self.fails([((), (False, 0)), ((1,), (2, 0)), ((3,), (1, 0))])
        self.fails(LOST_TABLE + [((True,), (2, 0))])

    def test_those_not_asked_do_not_stand_in_it(self):
        log = LOST + [("begin", 0), ("fall", 0)]
        self.shows(LOST_TABLE, log, False)
        self.fails(LOST_TABLE + [((0,), (0, 0))], log, False)
        self.fails(LOST_TABLE + [((0, 1), (4, 4))], log, False)
        self.shows(LOST_TABLE + [((0, 1), (4, 4))], log, True)
        self.shows(LOST_TABLE, log, True)

    def test_rows_that_must_rise(self):
        log = LOST + [("begin", 0)]
        self.shows(LOST_TABLE + [((0, 1), (4, 4))], log)
        for gone in ((1, 0), (0, 0), (0, 1, 1), (0, 0, 1), (1, 0, 1)):
            self.fails(LOST_TABLE + [(gone, (4, 4))], log)

    def test_time_bounds_who_may_be_next(self):
        log = LOST + [("begin", 0)]
        self.shows(LOST_TABLE, log)
        self.shows(LOST_TABLE + [((0,), (4, 4))], log)
        self.fails(LOST_TABLE + [((1, 3), (4, 4))], log)
        self.fails(LOST_TABLE + [((1, 3), (4, 4)), ((0, 1, 3), (4, 4))], log)

    def test_one_that_is_not_among_those_ahead_in_time_of_the_asked(self):
        log = [("begin", 5), ("look", 5, 0, 3), ("fall", 5), ("begin", 6), ("put", 6, 0, 1), ("done", 6),
               ("begin", 7), ("look", 7, 0, 2), ("done", 7)]
        self.shows([((), (0, 0))], log, True)
        self.fails([((), (0, 0))], log, False)
        self.shows([((), (0, 0)), ((6,), (1, 0))], log, False)

    def test_anything(self):
        for thing in ANYTHING + [tuple(LOST_TABLE), [LOST_TABLE], HUGE]:
            self.fails(thing)
            self.fails([thing])
            self.fails(LOST_TABLE + [thing])
            self.fails(thing, CHAIN)
            self.fails(thing, [])

    def test_more_than_eight_asked_whatever_the_thing_is(self):
        for thing in ANYTHING + [LOST_TABLE, [((), STATE)]]:
            self.assertRaises(TooMany, shows_none, WORLD, STATE, begins(9), True, thing)
            self.assertIs(shows_none(WORLD, STATE, begins(8), True, thing), False)
            self.assertIs(shows_none(WORLD, STATE, begins(9), False, thing), False)
            done = begins(9) + [("done", a) for a in range(9)]
            self.assertRaises(TooMany, shows_none, WORLD, STATE, done, False, thing)

    def test_never_where_there_is_a_good_order(self):
        for world, state, seed in (((2, 2), (0, 1), 44), ((1, 2), (1,), 45)):
            for log in woven_logs(seed, world, state, 120, 4, 20):
                for every in (True, False):
                    places = otherwise.reached(state, log, every)
                    whole = tuple(otherwise.asked(log, every))
                    table = [place for place in places if place[0] != whole]
                    there_is_none = len(table) == len(places)
                    self.assertIs(good(world, state, log, every)[0] == "none", there_is_none)
                    self.assertIs(shows_none(world, state, log, every, table), there_is_none)
                    self.assertIs(shows_none(world, state, log, every, places), there_is_none)

    def test_woven_tables(self):
        source = random.Random(46)
        world = (2, 2)
        state = (0, 1)
        told = {True: 0, False: 0}
        for log in woven_logs(47, world, state, 700, 4, 24):
            for every in (True, False):
                answer = good(world, state, log, every)
                ones = otherwise.asked(log, every)
                if answer[0] == "none":
                    for step in range(8):
                        table = list(answer[1])
                        if source.random() < 0.3:
                            table.pop(source.randrange(len(table)))
                        for more in range(source.randrange(3)):
                            gone = tuple(a for a in ones if source.random() < 0.5)
                            table.append((gone, (source.randrange(2), source.randrange(2))))
                        source.shuffle(table)
                        shown = shows_none(world, state, log, every, table)
                        self.assertIs(shown, otherwise.shows_none(state, log, every, table), (log, table))
                        told[shown] += 1
        self.assertGreater(min(told.values()), 200)


class FirstBadTest(unittest.TestCase):
    def bad(self, log, many, state=STATE):
        self.assertEqual(first_bad(WORLD, state, log), many)

    def good_all_along(self, log, state=STATE):
        self.assertIsNone(first_bad(WORLD, state, log))

    def test_good_all_along(self):
        self.good_all_along([])
        self.good_all_along(begins(8))
        self.good_all_along([("begin", 6), ("put", 6, 0, 1), ("done", 6), ("begin", 0), ("look", 0, 0, 1),
                             ("put", 0, 1, 2), ("fall", 0), ("begin", 5), ("look", 5, 1, 0), ("done", 5)])

    def test_bad_at_a_look(self):
        self.bad([("begin", 4), ("look", 4, 1, 3)], 2)
        self.bad([("begin", 4), ("look", 4, 1, 3), ("fall", 4), ("begin", 5)], 2)
        self.bad(TORN, 7)

    def test_bad_at_a_done(self):
        self.bad(LOST, 8)
        self.good_all_along(LOST[:7])

    def test_where_a_later_beginning_is_good_again(self):
        self.bad(CHAIN, 5)
        self.assertEqual(good(WORLD, STATE, CHAIN, True)[0], "good")
        log = [("begin", 0), ("put", 0, 0, 1), ("begin", 1), ("look", 1, 0, 1), ("done", 0)]
        self.bad(log, 4)
        self.assertEqual(good(WORLD, STATE, log, True)[0], "good")

    def test_it_hangs_on_the_first_state(self):
        self.bad(CHAIN, 7, (1, 0))
        self.good_all_along([event for event in CHAIN if event[0] != "done"], (1, 2))

    def test_where_the_order_must_be_turned(self):
        # 0 must stand behind 1 once it has seen 1's put, though it began first.
        log = [("begin", 0), ("begin", 1), ("put", 1, 0, 1), ("done", 1), ("look", 0, 0, 1), ("begin", 2),
               ("put", 2, 1, 1), ("done", 2), ("look", 0, 1, 1), ("done", 0)]
        self.good_all_along(log)
        self.bad(log[:-2] + [("look", 0, 0, 0)], 9)

    def test_a_put_of_an_open_one_is_no_change(self):
        log = [("begin", 0), ("begin", 1), ("put", 0, 0, 1), ("look", 1, 0, 0), ("fall", 0), ("look", 1, 0, 0)]
        self.good_all_along(log)
        self.bad(log + [("look", 1, 1, 1)], 7)

    def test_time_is_kept(self):
        log = [("begin", 0), ("put", 0, 0, 1), ("done", 0), ("begin", 1), ("look", 1, 0, 0)]
        self.bad(log, 5)
        self.good_all_along(log[:3] + log[3:4])

    def test_more_than_eight_attempts(self):
        for many in (9, 10, 200):
            self.assertRaises(TooMany, first_bad, WORLD, STATE, begins(many))
        ended = [event for a in range(9) for event in (("begin", a), ("fall", a))]
        self.assertRaises(TooMany, first_bad, WORLD, STATE, ended)
        self.good_all_along(ended[:-2])

    def test_more_than_eight_goes_first_where_a_beginning_is_bad(self):
        log = [("begin", 8), ("look", 8, 0, 4)] + begins(8)
        self.assertRaises(TooMany, first_bad, WORLD, STATE, log)
        self.bad(log[:-1], 2)

    def test_two_thousand_events(self):
        log = begins(8) + [("look", step % 8, step % 2, 0) for step in range(1990)] + [("put", 7, 1, 1), ("done", 7)]
        self.assertEqual(len(log), 2000)
        self.good_all_along(log)
        self.bad(log[:-2] + [("look", 3, 1, 4)], 1999)

    def test_woven_logs(self):
        told = {True: 0, False: 0}
        for world, state, seed in (((2, 2), (0, 1), 48), ((1, 3), (2,), 49)):
            for log in woven_logs(seed, world, state, 300, 5, 26):
                answer = first_bad(world, state, log)
                self.assertEqual(answer, otherwise.first_bad(state, log))
                told[answer is None] += 1
                if answer is None:
                    # Where all attempts have a good order, so have the done ones alone.
                    for many in range(len(log) + 1):
                        self.assertEqual(good(world, state, log[:many], False)[0], "good")
        self.assertGreater(min(told.values()), 50)

    def test_kinds_of_what_is_told(self):
        self.assertIs(type(first_bad(WORLD, STATE, LOST)), int)

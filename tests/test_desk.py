import random
import re
import unittest

from oneglance.alone import alone
from oneglance.desk import Desk
from oneglance.errors import GlanceError, NoRow, NoText
from oneglance.rows import in_row
from oneglance.texts import dealing_text
from oneglance.tries import Tries
from oneglance.waits import all_done, stuck
from tests import otherwise_texts
from tests.things import woven_run

NUMBER = "(?:0|[1-9][0-9]{0,3})"
ADD_ONE = "deal ( look 0 0 set 1 1 plus 0 1 put 0 0 )"
# Waits while box 1 has 0, then makes it 0 again.
TAKES = "deal ( look 0 1 leap 0 2 put 1 1 leap 1 12 wait )"
GIVES = "deal ( set 0 1 put 1 0 )"
PROBES = ["alone 0", "row 0 0", "now", "order", "all", "stuck"]


class DeskOtherwise:
    """A second telling of the desk's rows; a refusal is told by its name, with the place behind it."""

    def __init__(self):
        self.world = self.state = self.tries = None
        self.dealings = []

    def say(self, row):
        if re.fullmatch(f"world( {NUMBER})+", row):
            return self.say_world([int(word) for word in row.split(" ")[1:]])
        if self.world is None:
            return "NoRow"
        if row.startswith("deal "):
            return self.say_deal(row.split(" ")[1:])
        if not re.fullmatch(f"(alone|go) {NUMBER}|row( {NUMBER}){{1,12}}|try ({NUMBER}|-)|now|order|all|stuck", row):
            return "NoRow"
        word, *rest = row.split(" ")
        numbers = [int(one) for one in rest if one != "-"]
        many = len(self.dealings)
        if word in ("alone", "go", "row") and any(i >= many for i in numbers):
            return "NoRow"
        if word in ("go", "now", "order") and self.tries is None:
            return "NoRow"
        if word in ("try", "all", "stuck") and not 1 <= many <= (5 if word == "try" else 6):
            return "NoRow"
        return getattr(self, "say_" + word)(numbers)

    def say_world(self, numbers):
        boxes, wheel, state = numbers[0], (numbers + [0])[1], numbers[2:]
        if not 1 <= boxes <= 6 or not 2 <= wheel <= 1000 or len(state) != boxes or max(state) >= wheel:
            return "NoRow"
        self.__init__()
        self.world, self.state = (boxes, wheel), tuple(state)
        return "ok"

    def say_deal(self, words):
        if len(self.dealings) == 12:
            return "NoRow"
        told = otherwise_texts.first_wrong(self.world, " ".join(words))
        if type(told) is int:
            return f"NoText {told + 1}"
        self.dealings.append(told)
        self.tries = None
        return str(len(self.dealings) - 1)

    def listed(self, numbers):
        return " ".join(map(str, numbers)) or "-"

    def say_alone(self, numbers):
        told = alone(self.world, self.dealings[numbers[0]], self.state)
        return f"{told[0]} {self.listed(told[1])}"

    def say_row(self, numbers):
        told = in_row(self.world, self.dealings, self.state, numbers)
        return f"done {self.listed(told[1])}" if told[0] == "done" else f"waits {told[1]}"

    def say_try(self, numbers):
        if numbers and numbers[0] > 20:
            return "NoRow"
        self.tries = Tries(self.world, self.state, self.dealings, *numbers)
        return "ok"

    def say_go(self, numbers):
        return self.tries.go(numbers[0])

    def say_now(self, numbers):
        return self.listed(self.tries.now())

    def say_order(self, numbers):
        return self.listed(self.tries.order())

    def say_all(self, numbers):
        word, told = all_done(self.world, self.state, self.dealings)
        return self.listed(told) if word == "all" else "never"

    def say_stuck(self, numbers):
        word, told = stuck(self.world, self.state, self.dealings)
        return self.listed(told) if word == "stuck" else "free"


def answer(desk, row):
    """What a desk answers, a refusal by its name and place."""
    try:
        return desk.say(row)
    except NoText as refused:
        return f"NoText {refused.at}"
    except NoRow:
        return "NoRow"


def woven_row(source, desk):
    """A row that mostly fits what the desk has, by the second telling."""
    many = max(len(desk.dealings), 1)
    number = str(source.randrange(many)) if source.random() < 0.9 else source.choice(["12", "01", "", "-", "99999"])
    word = source.choices(["world", "deal", "alone", "row", "try", "go", "now", "order", "all", "stuck"],
                          [1, 5, 5, 5, 3, 30, 4, 4, 3, 3])[0]
    if desk.world is None or word == "world":
        boxes, wheel = source.randint(1, 3), source.randint(2, 4)
        return f"world {boxes} {wheel} " + " ".join(str(source.randrange(wheel)) for b in range(boxes))
    if word == "deal":
        return "deal " + dealing_text(woven_run(source, desk.world, 2, 5))
    if word == "row":
        return "row " + " ".join(str(source.randrange(many)) for step in range(source.randint(1, 12)))
    if word == "try":
        return "try " + source.choice(["-", "0", "1", "20", "21", number])
    return word + " " + number if word in ("alone", "go") else word


def spoilt(source, row):
    words = row.split(" ")
    place = source.randrange(len(words))
    other = source.choice(["", "0", "00", "1", "-", "x", "(", ")", "wait", "all", "7", "10000", "-1", "\n", "go"])
    words[place:place + source.randint(0, 1)] = source.choice([[], [other], [words[place]] * 2])
    return " ".join(words)


class DeskTest(unittest.TestCase):
    def setUp(self):
        self.desk = Desk()

    def says(self, *pairs):
        for row, text in pairs:
            told = self.desk.say(row)
            self.assertEqual(told, text, row)
            self.assertIs(type(told), str)

    def refused(self, *rows):
        before = [answer(self.desk, row) for row in PROBES]
        for row in rows:
            with self.assertRaises(GlanceError) as caught:
                self.desk.say(row)
            self.assertIs(type(caught.exception), NoRow, row)
        self.assertEqual([answer(self.desk, row) for row in PROBES], before)

    def no_text(self, row, at):
        before = [answer(self.desk, row) for row in PROBES]
        with self.assertRaises(NoText) as caught:
            self.desk.say(row)
        self.assertEqual(caught.exception.at, at, row)
        self.assertEqual([answer(self.desk, row) for row in PROBES], before)

    def test_a_day_at_the_desk(self):
        self.says(("world 2 10 3 0", "ok"), (ADD_ONE, "0"), (TAKES, "1"), (GIVES, "2"),
                  ("alone 0", "done 4 0"), ("alone 1", "waits 1"), ("alone 2", "done 3 1"),
                  ("row 0 2 1", "done 4 0"), ("row 0 1", "waits 1"), ("row 1 0", "waits 0"), ("row 0 0 0", "done 6 0"),
                  ("stuck", "free"), ("try -", "ok"), ("now", "3 0"), ("order", "-"),
                  ("go 1", "begun"), ("go 1", "went"), ("go 1", "went"), ("go 1", "slept"), ("go 1", "asleep"),
                  ("go 2", "begun"), ("go 2", "went"), ("go 2", "went"), ("go 2", "took"), ("now", "3 0"),
                  ("go 2", "done"), ("now", "3 1"), ("order", "2"), ("go 2", "idle"), ("go 1", "begun"))
        self.assertIn(self.desk.say("all"), ("0 2 1", "2 0 1", "2 1 0"))

    def test_world(self):
        self.says(("world 1 2 0", "ok"), ("world 6 1000 999 0 1 2 3 4", "ok"))
        self.refused("world", "world 1", "world 1 2", "world 1 2 0 0", "world 2 2 0", "world 0 2", "world 1 1 0",
                     "world 7 2 0 0 0 0 0 0 0", "world 1 1001 0", "world 1 2 2", "world 2 5 0 5", "world 2 5 5 0",
                     "world 1 2 -1", "world 1 2 00", "world 01 2 0", "world 1 02 0", "world 1 2 x", "world 1 2 ",
                     "world  1 2 0", "world 1 2 0 ", " world 1 2 0", "World 1 2 0", "world 1 2 +0", "world 1 10000 0",
                     "world 1 2 0\n", "world 1 2\t0", "world 1 1e3 0", "world 1 2 -")

    def test_a_new_world_takes_all_away(self):
        self.says(("world 2 10 3 0", "ok"), (ADD_ONE, "0"), ("try -", "ok"), ("world 2 10 3 0", "ok"))
        self.refused("alone 0", "row 0", "try -", "go 0", "now", "order", "all", "stuck")
        self.says((GIVES, "0"), ("alone 0", "done 3 1"))

    def test_a_refused_world_takes_nothing_away(self):
        self.says(("world 2 10 3 0", "ok"), (ADD_ONE, "0"), ("try -", "ok"), ("go 0", "begun"))
        self.refused("world 2 10 3", "world 2 10 3 10")
        self.says(("alone 0", "done 4 0"), ("go 0", "went"))

    def test_no_world_yet(self):
        self.refused("deal ( )", "deal", "deal x", "deal ", "alone 0", "row 0", "try -", "try 0", "go 0", "now",
                     "order", "all", "stuck", "", " ", "x")
        self.says(("world 1 2 0", "ok"))

    def test_deal_takes_the_tries_away(self):
        self.says(("world 2 10 3 0", "ok"), (ADD_ONE, "0"), ("try 3", "ok"), ("go 0", "begun"), (GIVES, "1"))
        self.refused("go 0", "now", "order")
        self.says(("try -", "ok"), ("now", "3 0"))

    def test_a_refused_deal_leaves_the_tries(self):
        self.says(("world 2 10 3 0", "ok"), (ADD_ONE, "0"), ("try 3", "ok"), ("go 0", "begun"))
        self.no_text("deal ( look )", 3)
        self.refused("deal")
        self.says(("go 0", "went"), (GIVES, "1"))

    def test_deal_spoilt(self):
        self.says(("world 2 10 3 0", "ok"))
        for row, at in (("deal ", 1), ("deal x", 1), ("deal (", 2), ("deal ()", 1), ("deal ( ", 2), ("deal  ( )", 1),
                        ("deal ( ) ", 3), ("deal ( ) )", 3), ("deal ( look 0 2 )", 4), ("deal ( look 4 0 )", 3),
                        ("deal ( look 0 1", 5), ("deal ( set 0 10 )", 4), ("deal ( set 0 09 )", 4),
                        ("deal ( )\n", 2), ("deal (\t)", 1), ("deal ( wait wait )  ", 5), ("deal try", 1),
                        ("deal ( " + "wait " * 13 + ")", 14), ("deal -", 1), ("deal 0", 1)):
            self.no_text(row, at)
        self.refused("deal", "deal\t( )", "deals ( )")
        self.says(("deal ( )", "0"))

    def test_a_thirteenth_dealing(self):
        self.says(("world 2 10 3 0", "ok"), *[(GIVES, str(number)) for number in range(12)])
        self.refused(GIVES, "deal ( )", "deal x", "deal ( look 9 9 )", "deal ", "deal")
        self.says(("alone 11", "done 3 1"), ("row 11 10 0", "done 3 1"))
        self.refused("alone 12", "row 0 12")

    def test_alone(self):
        self.says(("world 3 10 3 0 5", "ok"), ("deal ( wait )", "0"), ("deal ( look 0 2 look 0 0 wait )", "1"),
                  ("deal ( set 0 9 put 2 0 )", "2"), ("alone 0", "waits -"), ("alone 1", "waits 0 2"),
                  ("alone 2", "done 3 0 9"), ("alone 2", "done 3 0 9"))
        self.refused("alone", "alone ", "alone 3", "alone 00", "alone -1", "alone 0 1", "alone x", "alone  0",
                     "alone 0 ", "alone 10000", "alone 99999999999999999999", "alone -", "alone +0", "alone 0\n")

    def test_row(self):
        self.says(("world 2 10 3 0", "ok"), (ADD_ONE, "0"), (TAKES, "1"), ("row 0", "done 4 0"),
                  ("row" + " 0" * 12, "done 5 0"), ("row 0 0 1 0", "waits 2"), ("row 1", "waits 0"))
        self.refused("row", "row ", "row" + " 0" * 13, "row 2", "row 0 2", "row 0 ", "row  0", "row 0 00", "row 0 x",
                     "row -", "row 00000", "rows 0", "row 1 2")

    def test_try(self):
        self.says(("world 2 10 3 0", "ok"))
        self.refused("try -", "try 0", "all", "stuck")
        self.says((ADD_ONE, "0"), ("try -", "ok"), ("go 0", "begun"), ("try 0", "ok"), ("go 0", "begun"),
                  ("try 20", "ok"), ("go 0", "begun"), ("go 0", "went"))
        self.refused("try", "try ", "try 21", "try 00", "try 020", "try -1", "try --", "try - ", "try 9999",
                     "try 10000", "try x", "try 0 0", "try 1\n")
        self.says(("go 0", "went"))

    def test_patience_is_heard(self):
        self.says(("world 2 10 3 0", "ok"), (ADD_ONE, "0"), (ADD_ONE, "1"), ("try 0", "ok"), ("go 1", "begun"),
                  ("go 0", "held"), ("try -", "ok"), ("go 1", "begun"), ("go 0", "begun"))

    def test_go(self):
        self.says(("world 2 10 3 0", "ok"), (ADD_ONE, "0"))
        self.refused("go 0", "now", "order")
        self.says(("try -", "ok"))
        self.refused("go", "go ", "go 1", "go 00", "go -", "go 0 0", "go x", "go 0 ", "go 10000")
        self.says(("go 0", "begun"), ("go 0", "went"), ("go 0", "went"), ("go 0", "went"), ("go 0", "went"),
                  ("go 0", "took"), ("now", "3 0"), ("go 0", "done"), ("now", "4 0"), ("order", "0"), ("go 0", "idle"))

    def test_words_by_themselves(self):
        self.says(("world 2 10 3 0", "ok"), (ADD_ONE, "0"), ("try -", "ok"))
        for word in ("now", "order", "all", "stuck"):
            self.refused(word + " ", " " + word, word + " 0", word + " -", word.upper(), word + "\n", "\t" + word,
                         word * 2)
        self.refused("", " ", "  ", "\n", "\t", "x", "0", "-", "( )", "deals", "alone0", "worlds 1 2 0")

    def test_how_many_dealings(self):
        self.says(("world 2 10 3 0", "ok"))
        for many in range(1, 9):
            self.says((GIVES, str(many - 1)))
            check = self.says if many <= 5 else lambda *pairs: self.refused(*[row for row, text in pairs])
            check(("try -", "ok"), ("try 20", "ok"), (f"go {many - 1}", "begun"))
            check = self.says if many <= 6 else lambda *pairs: self.refused(*[row for row, text in pairs])
            check(("stuck", "free"))
            if many <= 6:
                self.assertEqual(sorted(self.desk.say("all").split(" ")), [str(i) for i in range(many)])
            else:
                self.refused("all")

    def test_all_and_stuck(self):
        self.says(("world 2 10 3 0", "ok"), (TAKES, "0"), ("all", "never"), ("stuck", "-"), (GIVES, "1"),
                  ("all", "1 0"), ("stuck", "free"), ("deal ( wait )", "2"), ("all", "never"), ("stuck", "1 0"),
                  ("deal ( look 0 1 leap 0 1 wait )", "3"), ("all", "never"))
        self.assertIn(self.desk.say("stuck"), ("3 1 0", "1 0 3"))

    def test_what_is_told_begins_at_the_first_state(self):
        self.says(("world 2 10 3 0", "ok"), (ADD_ONE, "0"), (TAKES, "1"), ("try -", "ok"))
        for step in range(7):
            self.desk.say("go 0")
        self.says(("now", "4 0"), ("alone 0", "done 4 0"), ("row 0", "done 4 0"), ("all", "never"), ("stuck", "0"),
                  ("try -", "ok"), ("now", "3 0"), ("order", "-"))

    def test_two_thousand_signs(self):
        self.says(("world 2 10 3 0", "ok"))
        self.refused("x" * 2000, " " * 2000, "row" + " 0" * 998, "go " + "0" * 1900, "try " + "9" * 1900)
        self.no_text("deal " + "( " * 997, 2)


class WovenDeskTest(unittest.TestCase):
    def test_woven_rows(self):
        source = random.Random(121)
        words = {}
        for times in range(60):
            desk, other = Desk(), DeskOtherwise()
            for step in range(120):
                row = woven_row(source, other)
                if source.random() < 0.2:
                    row = spoilt(source, row)
                told = answer(desk, row)
                self.assertEqual(told, other.say(row), row)
                key = (row.split(" ")[0], told[:2] == "No")
                words[key] = words.get(key, 0) + 1
        for word in ("world", "deal", "alone", "row", "try", "go", "now", "order", "all", "stuck"):
            for refused in (True, False):
                self.assertGreater(words[word, refused], 10, (word, refused))

    def test_what_is_refused_changes_nothing(self):
        source = random.Random(122)
        for times in range(40):
            desk, plain, other = Desk(), Desk(), DeskOtherwise()
            for step in range(80):
                row = woven_row(source, other)
                if source.random() < 0.4:
                    row = spoilt(source, row)
                told = answer(desk, row)
                other.say(row)
                if told[:2] != "No":
                    self.assertEqual(plain.say(row), told)
            for row in PROBES:
                self.assertEqual(answer(plain, row), answer(desk, row))

    def test_two_by_turns(self):
        source = random.Random(123)
        for times in range(30):
            guide = DeskOtherwise()
            rows = [[], []]
            for which in range(2):
                guide.__init__()
                for step in range(60):
                    rows[which].append(woven_row(source, guide))
                    guide.say(rows[which][-1])
            pair, apart = [Desk(), Desk()], [Desk(), Desk()]
            told = [[answer(pair[which], rows[which][step]) for which in range(2)] for step in range(60)]
            for which in range(2):
                self.assertEqual([answer(apart[which], row) for row in rows[which]], [one[which] for one in told])

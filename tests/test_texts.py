import random
import unittest

from oneglance.dealings import deeds_in, is_dealing
from oneglance.errors import GlanceError, NoText
from oneglance.texts import dealing_text, read_dealing
from tests import otherwise_texts as otherwise
from tests.things import woven_dealings

WORLD = (3, 7)
WAIT = ("wait",)
SAID = "( look 0 1 leap 0 1 wait put 1 0 )"
DEALING = (("look", 0, 1), ("leap", 0, 1), WAIT, ("put", 1, 0))
TRIED = "( try ( look 3 2 wait ) ( try ( ) ( plus 1 1 ) ) set 0 6 )"
BOUNDS = {"look": ((0, 3), (0, 2)), "put": ((0, 2), (0, 3)), "set": ((0, 3), (0, 6)), "plus": ((0, 3), (0, 3)),
          "leap": ((0, 3), (1, 12))}
# Words that stand nowhere in a dealing, or not in each place.
WORDS = ["(", ")", "look", "put", "set", "plus", "leap", "wait", "try", "0", "1", "2", "3", "7", "12", "13", "00", "01",
         "-1", "+1", "1.0", "1" * 40, "", "\t", "\n", "(\n", "((", "()", "Look", "waits", "x", "-", "0\n", "\t0", "1e1"]


def tries_within(many):
    text = "( )"
    for step in range(many):
        text = "( try " + text + " ( ) )"
    return text


class TextsTest(unittest.TestCase):
    def reads(self, text, dealing, world=WORLD):
        told = read_dealing(world, text)
        self.assertEqual(told, dealing)
        self.assertEqual(dealing_text(told), text)
        self.assertIs(is_dealing(world, told), True)

    def refused(self, text, at, world=WORLD):
        with self.assertRaises(NoText) as caught:
            read_dealing(world, text)
        self.assertEqual(caught.exception.at, at, text)
        self.assertIs(type(caught.exception.at), int)
        self.assertIsInstance(caught.exception, GlanceError)

    def check(self, text, world=WORLD):
        """By both tellings the same; tells whether it writes a dealing."""
        told = otherwise.first_wrong(world, text)
        if type(told) is tuple:
            self.reads(text, told, world)
            return True
        self.refused(text, told, world)
        return False

    def test_dealings(self):
        self.reads(SAID, DEALING)
        self.reads("( )", ())
        self.reads("( wait )", (WAIT,))
        self.reads("( try ( ) ( ) )", (("try", (), ()),))
        self.reads(TRIED, (("try", (("look", 3, 2), WAIT), (("try", (), (("plus", 1, 1),)),)), ("set", 0, 6)))
        self.reads("( set 0 999 )", (("set", 0, 999),), (1, 1000))

    def test_each_number_at_its_bounds_and_beyond(self):
        for word, bounds in BOUNDS.items():
            for one in range(0, 15):
                for other in range(0, 15):
                    text = f"( {word} {one} {other} )"
                    if not bounds[0][0] <= one <= bounds[0][1]:
                        self.refused(text, 2)
                    elif not bounds[1][0] <= other <= bounds[1][1]:
                        self.refused(text, 3)
                    else:
                        self.reads(text, ((word, one, other),))

    def test_bounds_hang_on_the_world(self):
        for boxes in range(1, 7):
            for wheel in (2, 10, 11, 100, 101, 999, 1000):
                world = (boxes, wheel)
                self.reads(f"( look 0 {boxes - 1} put {boxes - 1} 0 set 0 {wheel - 1} )",
                           (("look", 0, boxes - 1), ("put", boxes - 1, 0), ("set", 0, wheel - 1)), world)
                self.refused(f"( look 0 {boxes} )", 3, world)
                self.refused(f"( put {boxes} 0 )", 2, world)
                self.refused(f"( set 0 {wheel} )", 3, world)

    def test_numbers_written_in_another_way(self):
        for number in ("00", "01", "001", "+1", "-1", "-0", "1.0", "1e0", "0x1", "1_0", " 1", "one", "", "1\n", "\t1",
                       "\n", "1" * 5, "1" * 100, "9" * 1800, "0" * 1800, "1,", "(", ")", "wait", "1)"):
            for word in BOUNDS:
                self.refused(f"( {word} {number} 1 )", 2)
                self.refused(f"( {word} 1 {number} )", 3)

    def test_no_signs_and_no_words(self):
        self.refused("", 0)
        self.refused(" ", 0)
        self.refused(" ( )", 0)
        self.refused("( ) ", 2)
        self.refused("(  )", 1)
        self.refused("( wait  )", 2)
        self.refused("()", 0)
        self.refused("(wait)", 0)

    def test_tabs_and_line_ends_part_no_words(self):
        self.refused("(\t)", 0)
        self.refused("(\n)", 0)
        self.refused("( )\n", 1)
        self.refused("( look\t0\t1 )", 1)
        self.refused("( look 0 1\n)", 3)

    def test_cut_off(self):
        for text in (SAID, TRIED):
            words = text.split(" ")
            for many in range(1, len(words)):
                self.refused(" ".join(words[:many]), many)

    def test_words_behind_the_end(self):
        for more in ("(", ")", "wait", "", "0", "( )"):
            self.refused("( ) " + more, 2)
            self.refused(SAID + " " + more, len(SAID.split(" ")))

    def test_twelve_deeds_in_a_tuple(self):
        self.reads("( " + "wait " * 12 + ")", (WAIT,) * 12)
        for many in (13, 14, 100):
            self.refused("( " + "wait " * many + ")", 13)
        self.refused("( " + "wait " * 12 + "look 9 9 )", 13)
        self.refused("( " + "wait " * 12 + "x )", 13)
        self.refused("( " + "wait " * 12 + "try )", 13)
        self.refused("( " + "wait " * 12, 13)
        self.refused("( " + " ".join(["wait"] * 12), 13)
        self.reads("( try ( " + "wait " * 12 + ") ( ) )", (("try", (WAIT,) * 12, ()),))
        self.refused("( try ( " + "wait " * 13 + ") ( ) )", 15)
        self.refused("( try ( ) ( " + "wait " * 13 + ") )", 17)

    def test_forty_deeds_in_all(self):
        full = "( try ( " + "wait " * 12 + ") ( " + "wait " * 12 + ") try ( " + "wait " * 12 + ") ( ) wait wait )"
        dealing = read_dealing(WORLD, full)
        self.assertEqual(deeds_in(dealing), 40)
        self.assertEqual(dealing_text(dealing), full)
        words = full.split(" ")
        self.refused(full[:-1] + "wait )", len(words) - 1)
        self.refused(full[:-1] + "look 0 0 )", len(words) - 1)
        last = len(words) - 2
        self.reads(" ".join(words[:last]) + " try ( ) ( ) )", dealing[:-1] + (("try", (), ()),))
        self.refused(" ".join(words[:last]) + " try ( wait ) ( ) )", last + 2)
        self.refused(" ".join(words[:last]) + " try ( ) ( wait ) )", last + 4)
        self.refused(" ".join(words[:last]) + " try ( ) ( ) wait )", last + 5)
        self.reads(" ".join(words[:last - 1]) + " try ( ) ( wait ) )", dealing[:-2] + (("try", (), (WAIT,)),))

    def test_three_tries_within_one_another(self):
        for many in range(0, 7):
            text = tries_within(many)
            if many <= 3:
                self.assertEqual(dealing_text(read_dealing(WORLD, text)), text)
            else:
                self.refused(text, 7)
        self.refused("( try ( ) ( try ( ) ( try ( ) ( try ( ) ( ) ) ) ) )", 13)
        side = "( try ( try ( try ( ) ( ) ) ( try ( ) ( ) ) ) ( try ( ) ( ) ) try ( ) ( ) )"
        self.assertEqual(dealing_text(read_dealing(WORLD, side)), side)

    def test_a_try_wants_both_dealings(self):
        self.refused("( try ( ) )", 4)
        self.refused("( try )", 2)
        self.refused("( try wait ( ) )", 2)
        self.refused("( try ( ) wait )", 4)
        self.refused("( try ( ) ( ) ( ) )", 6)
        self.refused("( ( ) )", 1)

    def test_each_the_others_way_back(self):
        for world, seed in ((WORLD, 111), ((1, 2), 112), ((6, 1000), 113)):
            for dealing in woven_dealings(seed, world, 400):
                if is_dealing(world, dealing):
                    text = dealing_text(dealing)
                    self.assertEqual(read_dealing(world, text), dealing)
                    self.assertEqual(otherwise.read(world, text.split(" ")), dealing)

    def test_texts_spoilt_at_each_place(self):
        for text in (SAID, TRIED, "( )", "( " + "wait " * 12 + ")", tries_within(3)):
            words = text.split(" ")
            for place in range(len(words)):
                ahead, word, rest = words[:place], words[place], words[place + 1:]
                self.check(" ".join(ahead + rest))
                self.check(" ".join(ahead + [word, word] + rest))
                self.check(" ".join(ahead))
                for other in WORDS:
                    self.check(" ".join(ahead + [other] + rest))
                    self.check(" ".join(ahead + [other, word] + rest))
                for change in (place + 1, place + 2):
                    turned = list(words)
                    if change < len(words):
                        turned[place], turned[change] = turned[change], turned[place]
                        self.check(" ".join(turned))

    def test_woven_texts_spoilt(self):
        source = random.Random(114)
        told = {True: 0, False: 0}
        for world, seed in ((WORLD, 115), ((1, 2), 116), ((6, 1000), 117)):
            for dealing in woven_dealings(seed, world, 500):
                words = dealing_text(dealing).split(" ")
                for step in range(source.randint(0, 2)):
                    place = source.randrange(len(words))
                    words[place:place + source.randint(0, 1)] = source.choice([[], [source.choice(WORDS)], words[:3]])
                    words = words or [""]
                told[self.check(" ".join(words), world)] += 1
        self.assertGreater(min(told.values()), 200)

    def test_woven_words(self):
        source = random.Random(118)
        for step in range(3000):
            words = ["("] + [source.choice(WORDS[:12]) for more in range(source.randint(0, 8))]
            self.check(" ".join(words))

    def test_two_thousand_signs(self):
        self.refused("( " * 1000, 1)
        self.refused("x" * 2000, 0)
        self.refused(" " * 2000, 0)
        self.refused("( wait " + "wait " * 398 + ")", 13)
        self.refused("( try " * 300, 7)

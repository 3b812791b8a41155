"""[9]: plain and parts."""

import string
import unittest

from rowscribe.alike import parts, plain
from rowscribe.errors import BadRow
from rowscribe.names import fresh_names, is_name
from rowscribe.writing import names_told, written
from tests.helper import drawn_texts, text

NESTED = text(
    "macro in p q",
    "@x: take p q",
    "zero p @x",
    "end",
    "macro out p q",
    "@x: in p 5-q",
    "in r3 @x+q",
    "jump @x",
    "end",
    "one: out r0 two-3",
    "two: out r1 -here+20",
    "stop",
)


class Plain(unittest.TestCase):
    def is_plain(self, one):
        """Checks what is promised of the plain text, and tells it."""
        told = plain(one)
        with self.subTest(text=one, plain=told):
            self.assertIs(type(told), str)
            self.assertEqual(written(told), written(one))
            self.assertEqual(written(plain(told)), written(one))
            self.assertNotIn("@", told)
            for row in told.split("\n"):
                self.assertNotIn("macro", row.split())
                self.assertNotIn("end", row.split())
        return told

    def test_the_empty_text(self):
        self.assertEqual(plain(""), "")

    def test_texts_that_write_nothing(self):
        for one in ("\n\n", "; none", "macro m\nstop\nend", "macro m\nend\nm", "x:", "is x 300", "at 0", "room 0"):
            self.is_plain(one)

    def test_without_macros(self):
        self.is_plain("stop")
        self.is_plain("  x:   jump  x+1-1 ; on and on\n\nword -1 -x 255")
        self.is_plain("is a 3\nat a+1\nroom a\nb: take r0 b\ntake r1 7\ntake! r1 7\ncopy b b-1\nskip b")
        self.is_plain("word 1\nat 9\nroom 2\nat 20")
        self.is_plain("at 256")

    def test_all_ops(self):
        self.is_plain(text(
            "x: stop", "back", "say r1", "take! r2 200", "move r3 r0", "add r1 r2", "less r2 r3", "load r1 x", "store r3 9",
            "jump x", "call x", "skip x", "zero r2 x", "same r1 r3 x", "copy 1 2", "take r3 7", "take r3 8", "word 1 2",
        ))

    def test_macros_that_call_others(self):
        self.is_plain(NESTED)

    def test_names_of_a_calls_own(self):
        self.is_plain(text("macro m", "@x: jump @x", "is @y @x+1", "word @y", "end", "m", "m", "stop", "m"))
        self.is_plain(text("macro m p", "is @n p", "room @n", "end", "m 3", "m 5", "stop"))

    def test_a_sum_handed_as_a_whole(self):
        one = text("macro m p", "word 50-p p-1 -p", "end", "m 9-2+x", "is x 7")
        self.assertEqual(written(self.is_plain(one)), [36, 13, 242])
        one = text("macro in p", "word 90-p", "end", "macro m p", "in 5-p", "end", "m -here+4-2", "stop")
        self.assertEqual(written(self.is_plain(one)), [87, 0])

    def test_handed_here(self):
        self.is_plain(text("macro m p", "stop", "word p", "word 9-p", "end", "stop", "m here+1"))

    def test_names_that_look_as_fresh_ones(self):
        # so many letters, and pairs of them, that any simple way to make up names meets some
        names = list(string.ascii_lowercase)
        names += [one + other for one in "abcx" for other in string.ascii_lowercase if one + other not in ("at", "is")]
        for number in range(3):
            rows = [f"{name}: stop" for name in names[:100 + number]]
            macro = ["macro m", "@a: jump @a", "@b: jump @a", "end"]
            self.is_plain(text(*macro, *rows, "m", "m"))
        for name in ("x", "xa", "own", "fresh", "l", "n", "name", "p", "at" * 2):
            self.is_plain(text(f"macro {name} p", f"@{name[:7]}: jump p", f"jump @{name[:7]}", "end", f"{name}: stop",
                               f"{name} {name}", f"{name} {name}+1"))

    def test_own_names_that_no_plain_name_can_be(self):
        self.is_plain(text("macro m", "@stop: jump @stop", "@here: jump @here", "@end: jump @end", "end", "m", "m"))

    def test_a_name_of_its_own_ahead_of_a_call(self):
        one = text("macro m", "stop", "end", "stop", "x: m", "jump x")
        self.assertEqual(written(self.is_plain(one)), [0, 0, 96, 1])

    def test_400_rows(self):
        macro = ["macro m", "@x: stop", "is @y @x", "room 0", "end"]
        self.is_plain(text(*macro, *["m"] * 100))
        self.is_plain(text("macro m", "@x: is @y @x", "end", *["m"] * 200))

    def test_sums_of_24_parts(self):
        eight = "+".join(["1"] * 8)
        self.is_plain(text("macro m p", "word p-p+p", "end", "m " + eight))

    def test_drawn_texts(self):
        for one in drawn_texts(150):
            self.is_plain(one)

    def test_what_written_refuses(self):
        # helper.refused asks plain of each text that any test here knows to be refused
        with self.assertRaises(BadRow) as caught:
            plain("macro m\nword x\nend\nstop\nm")
        self.assertEqual((caught.exception.row, caught.exception.why), (4, "unknown"))


class FreshNames(unittest.TestCase):
    def test_they_are_names_and_unlike(self):
        names = fresh_names(1000, {})
        self.assertEqual(len(set(names)), 1000)
        self.assertTrue(all(is_name(name) for name in names))

    def test_none_is_taken(self):
        taken = {name: True for name in fresh_names(40, {})}
        self.assertFalse(set(fresh_names(40, taken)) & set(taken))

    def test_none_at_all(self):
        self.assertEqual(fresh_names(0, {"a": 1}), [])


class Parts(unittest.TestCase):
    def part(self, one, other, expected):
        """Checks it, and the other way about."""
        about = None if expected is None else (expected[0], expected[2], expected[1])
        with self.subTest(one=one, other=other):
            self.assertEqual(parts(one, other), expected)
            self.assertEqual(parts(other, one), about)

    def test_texts_that_write_the_same(self):
        self.part("", "", None)
        self.part("", "; none\nx:", None)
        self.part("stop", "x: word 0", None)
        self.part("room 3", "at 3", None)
        self.part("take r0 8", "take! r0 8", None)
        self.part(NESTED, plain(NESTED), None)

    def test_that_part_in_a_word(self):
        self.part("word 1 2 3", "word 1 5 3", (1, 2, 5))
        self.part("word 1 2 3", "word 1 5 9", (1, 2, 5))
        self.part("stop", "back", (0, 0, 1))
        self.part("word 7\nat 200\nword 8", "word 7\nroom 199\nword 9", (200, 8, 9))
        self.part("at 255\nstop", "at 255\nback", (255, 0, 1))

    def test_of_which_one_writes_fewer_words(self):
        self.part("word 1 2 3", "word 1 2", (2, 3, None))
        self.part("", "stop", (0, None, 0))
        self.part("stop", "stop\nat 2", (1, None, 0))
        self.part("at 255", "at 256", (255, None, 0))
        self.part("", "at 256", (0, None, 0))

    def test_a_word_ahead_of_the_end_of_one(self):
        self.part("word 1 9", "word 1 2 3 4", (1, 9, 2))

    def test_kinds_of_values(self):
        told = parts("stop", "back")
        self.assertIs(type(told), tuple)
        self.assertEqual([type(number) for number in told], [int] * 3)

    def test_drawn_texts(self):
        texts = drawn_texts(60)
        for one, other in zip(texts, texts[1:]):
            words, others = written(one), written(other)
            self.assertIsNone(parts(one, one))
            place, word, instead = parts(one, other)
            self.assertEqual(words[:place], others[:place])
            self.assertNotEqual(words[:place + 1], others[:place + 1])
            self.assertEqual(words[place:place + 1], [] if word is None else [word])
            self.assertEqual(others[place:place + 1], [] if instead is None else [instead])

    def test_the_first_is_refused_first(self):
        for one, other, row, why in (
            ("stop\nhalt", "jump 256", 1, "form"), ("jump 256", "stop\nhalt", 0, "value"),
            ("stop", "\n\nend", 2, "macro"), ("x:\nx:", "", 1, "name"),
        ):
            with self.subTest(one=one, other=other), self.assertRaises(BadRow) as caught:
                parts(one, other)
            self.assertEqual((caught.exception.row, caught.exception.why), (row, why))


class PlainNames(unittest.TestCase):
    def test_the_texts_names_are_worth_the_same(self):
        # not promised, but what names_instead is for: no name of the text is taken
        for one in drawn_texts(40):
            self.assertLessEqual(set(names_told(one)), set(names_told(plain(one))))


if __name__ == "__main__":
    unittest.main()

"""[4], [5] and [7]: rows of a text, names, sums, and takes short and long."""

import unittest

from rowscribe.writing import listed, names_told, written
from tests.helper import refused, text


class Rows(unittest.TestCase):
    def writes(self, row, *words):
        with self.subTest(row=row):
            self.assertEqual(written(row), list(words))

    def test_rows_without_boxes(self):
        self.writes("stop", 0)
        self.writes("back", 1)
        self.writes("jump 200", 96, 200)
        self.writes("call 200", 97, 200)
        self.writes("skip 2", 99, 0)
        self.writes("copy 200 100", 128, 200, 100)

    def test_rows_with_a_box(self):
        for p in range(4):
            self.writes(f"say r{p}", 4 + p)
            self.writes(f"take! r{p} 5", 16 + p, 5)
            self.writes(f"load r{p} 99", 80 + p, 99)
            self.writes(f"store r{p} 99", 84 + p, 99)
            self.writes(f"zero r{p} 99", 100 + p, 99)
            self.writes(f"take r{p} 8", 16 + p, 8)
            for number in range(8):
                self.writes(f"take r{p} {number}", 144 + 8 * p + number)

    def test_rows_with_two_boxes(self):
        for p in range(4):
            for q in range(4):
                self.writes(f"move r{p} r{q}", 32 + 4 * p + q)
                self.writes(f"add r{p} r{q}", 48 + 4 * p + q)
                self.writes(f"less r{p} r{q}", 64 + 4 * p + q)
                self.writes(f"same r{p} r{q} 77", 112 + 4 * p + q, 77)

    def test_word(self):
        self.writes("word 9", 9)
        self.writes("word 1 2 3 4 5 6 7 8", 1, 2, 3, 4, 5, 6, 7, 8)

    def test_room(self):
        self.writes("room 0")
        self.writes("room 3", 0, 0, 0)
        self.writes("room 256", *[0] * 256)

    def test_at(self):
        self.writes("at 0")
        self.writes("at 2", 0, 0)
        self.assertEqual(written(text("word 1", "at 3", "word 2")), [1, 0, 0, 2])
        self.assertEqual(written(text("word 1", "at 1", "word 2")), [1, 2])
        self.assertEqual(len(written("at 256")), 256)

    def test_at_leaves_its_own_place(self):
        self.assertEqual(names_told(text("stop", "one: at 9", "two: stop")), [("one", 1), ("two", 9)])

    def test_is(self):
        self.assertEqual(written(text("is a 200", "jump a")), [96, 200])
        self.assertEqual(names_told(text("stop", "b: is a here+5")), [("a", 6), ("b", 1)])

    def test_rows_are_numbered_from_nought(self):
        self.assertEqual(listed("stop\n\n ; none\nback\n"), [(0, 0, (0,)), (3, 1, (1,))])

    def test_what_stands_behind_a_semicolon_is_left_aside(self):
        self.assertEqual(written("stop;back\nback ; say r9 ; stop\n;stop\nx:; ?\nword 7;8"), [0, 1, 7])

    def test_blanks(self):
        self.assertEqual(written("   take!    r1   9  \n  x:   jump  x "), [17, 9, 96, 2])

    def test_a_row_of_a_name_alone(self):
        self.assertEqual(names_told("stop\na:\nb:\nstop\nc:"), [("a", 1), ("b", 1), ("c", 2)])

    def test_rows_that_are_none(self):
        for row in (
            "halt", "stop 1", "back r0", "say", "say 0", "say r4", "say r0 r1", "say r00", "say R0",
            "take r0", "take 5 r0", "take r0 1 2", "take! r0", "take ! r0 5", "move r0", "move r0 5", "add r0 r1 r2",
            "less", "load r0", "load 5 r0", "store r0 r1", "jump", "jump r0", "jump 1 2", "call", "skip", "skip r1",
            "zero 5 r0", "same r0 r1", "same r0 5", "copy 1", "copy 1 2 3", "copy r0 1", "word", "word r0",
            "word 1 2 3 4 5 6 7 8 9", "room", "room 1 2", "at", "at 1 2", "at r0", "is", "is a", "is 5 a", "is a b 5",
            "is stop 5", "is r0 5", "is @a 5", "is a: 5", "STOP", "Stop", "stop:", "here", "here: stop", "5", "r0",
            "a", "a b", "a stop", "a : stop", "a:stop", ":", ": stop", "a: b: stop", "a:: stop", "stop\t", "\tstop",
            "take\tr0 5", "stop\r", "a: end", "end a", "a: macro b", "a, stop", "jump 1 + 2", "@a: stop", "jump @a",
        ):
            with self.subTest(row=row):
                self.assertEqual(refused("stop", row), (1, "form"))


class Names(unittest.TestCase):
    def test_one_to_eight_letters(self):
        for name in ("a", "z", "abcdefgh", "zzzzzzzz", "r", "stops", "ends", "tak"):
            with self.subTest(name=name):
                self.assertEqual(refused(f"{name}: jump {name}"), None)
                self.assertEqual(refused(f"is {name} 5", f"jump {name}"), None)

    def test_what_is_no_name(self):
        for name in (
            "", "abcdefghi", "A", "aB", "a1", "1a", "r0", "a_b", "a.b", "\u00e9", "@a", "a@", "stop", "back", "say",
            "take", "take!", "move", "add", "less", "load", "store", "jump", "call", "skip", "zero", "same", "copy",
            "at", "word", "room", "is", "macro", "end", "here",
        ):
            with self.subTest(name=name):
                self.assertEqual(refused(f"{name}: stop"), (0, "form"))
                self.assertEqual(refused(f"is {name} 5"), (0, "form"))
                if name != "here":
                    self.assertEqual(refused(f"jump {name}"), (0, "form"))

    def test_names_ahead_of_and_behind_the_row_that_gives_them(self):
        self.assertEqual(written(text("jump b", "a: jump a", "b: jump a")), [96, 4, 96, 2, 96, 2])
        self.assertEqual(written(text("jump n", "is n m+1", "is m 9", "jump n")), [96, 10, 96, 10])


class Sums(unittest.TestCase):
    def comes_to(self, words, worth):
        with self.subTest(words=words):
            self.assertEqual(dict(names_told(f"is a 5\nis b 30\nis x {words}"))["x"], worth)

    def test_sums(self):
        self.comes_to("0", 0)
        self.comes_to("-0", 0)
        self.comes_to("9999", 9999)
        self.comes_to("-9999", -9999)
        self.comes_to("1+2", 3)
        self.comes_to("1-2", -1)
        self.comes_to("-1-2+10", 7)
        self.comes_to("a", 5)
        self.comes_to("-a", -5)
        self.comes_to("b-a-a+1", 21)
        self.comes_to("-b+a", -25)
        self.comes_to("1000+20", 1020)

    def test_here_is_the_rows_own_place(self):
        self.assertEqual(written(text("stop", "jump here", "word here here+1 -here")), [0, 96, 1, 3, 4, 253])
        self.assertEqual(names_told(text("stop", "is a here", "stop", "is b a+here")), [("a", 1), ("b", 3)])

    def test_what_is_no_sum(self):
        for words in (
            "+1", "--1", "-", "+", "1+", "1-", "1++2", "1+-2", "1-+2", "00", "01", "-01", "10000", "1+02", "1.5", "0x1",
            "1*2", "(1)", "a+", "a+B", "a+stop", "r0", "1+r0", "a:", "1,2", "\u0661", "1_0", "@a", "1+@a", "a+abcdefghi",
        ):
            with self.subTest(words=words):
                self.assertEqual(refused("a: stop", f"is x {words}"), (1, "form"))

    def test_parts(self):
        self.comes_to("+".join(["1"] * 24), 24)
        self.comes_to("-" + "-".join(["1"] * 24), -24)
        self.assertEqual(refused("is x " + "+".join(["1"] * 25)), (0, "long"))
        self.assertEqual(refused("is x -" + "-".join(["here"] * 25)), (0, "long"))

    def test_sums_of_at_and_room(self):
        self.assertEqual(written(text("is a 2", "is b a+a-1", "at b+1", "word 9", "room b-1")), [0, 0, 0, 0, 9, 0, 0])

    def test_names_that_at_and_room_do_not_let_stand(self):
        for op in ("at", "room"):
            with self.subTest(op=op):
                # given by an is row behind, by a place, by a sum with a place, or here, or such a name
                self.assertEqual(refused(f"{op} a", "is a 1"), (0, "unknown"))
                self.assertEqual(refused("a: stop", f"{op} a"), (1, "unknown"))
                self.assertEqual(refused("a:", f"{op} 1+a"), (1, "unknown"))
                self.assertEqual(refused("p:", "is a p", f"{op} a"), (2, "unknown"))
                self.assertEqual(refused("is a here", f"{op} a"), (1, "unknown"))
                self.assertEqual(refused("is a b", "is b 1", f"{op} a"), (2, "unknown"))
                self.assertEqual(refused("is b here", "is a b+1", f"{op} a"), (2, "unknown"))
                self.assertEqual(refused(f"{op} a"), (0, "unknown"))
                self.assertEqual(refused("is a 1", "is b a", f"{op} b"), None)

    def test_here_stands_nowhere_in_at_and_room(self):
        self.assertEqual(refused("at here"), (0, "unknown"))
        self.assertEqual(refused("stop", "room 5-here"), (1, "unknown"))


class Takes(unittest.TestCase):
    def test_short_and_long(self):
        self.assertEqual(written("take r2 0"), [160])
        self.assertEqual(written("take r2 7"), [167])
        self.assertEqual(written("take r2 8"), [18, 8])
        self.assertEqual(written("take r2 -1"), [18, 255])
        self.assertEqual(written("take r2 9-2"), [167])
        self.assertEqual(written("take! r2 7"), [18, 7])

    def test_all_are_short_at_first(self):
        # with the take short, x is 7 and so the take is short
        self.assertEqual(written(text("take r0 x", "room 6", "x:")), [151, 0, 0, 0, 0, 0, 0])
        self.assertEqual(written(text("take r0 x", "room 7", "x:")), [16, 9, 0, 0, 0, 0, 0, 0, 0])

    def test_long_round_by_round(self):
        # the third is long at once, by which y is 8 and the second is long, by which x is 8 and the first is long
        rows = text("take r0 x", "take r1 y", "take r2 9", "room 3", "x: stop", "y: stop")
        self.assertEqual(written(rows), [16, 9, 17, 10, 18, 9, 0, 0, 0, 0, 0])
        # one place less, and the first stays short
        rows = text("take r0 x-1", "take r1 y", "take r2 9", "room 3", "x: stop", "y: stop")
        self.assertEqual(written(rows), [151, 17, 9, 18, 9, 0, 0, 0, 0, 0])

    def test_a_long_one_stays_long(self):
        # by the first places n is 8, by the next ones 6
        rows = text("take r0 n", "take r1 50", "p:", "is n 10-p")
        self.assertEqual(written(rows), [16, 6, 17, 50])

    def test_all_that_do_not_fit_are_long_in_one_round(self):
        # by the first places n is 8 for both; if but one became long, n would be 7 for the other
        rows = text("take r0 n", "take r1 n", "p:", "is n 10-p")
        self.assertEqual(written(rows), [16, 6, 17, 6])

    def test_here_in_a_take(self):
        self.assertEqual(written(text("room 7", "take r0 here", "take r0 here")), [0] * 7 + [151, 16, 8])


class Values(unittest.TestCase):
    def fits(self, row, worth, words):
        with self.subTest(row=row, worth=worth):
            self.assertEqual(written(row.replace("S", str(worth))), words)

    def fits_not(self, row, worth):
        with self.subTest(row=row, worth=worth):
            self.assertEqual(refused("", row.replace("S", str(worth))), (1, "value"))

    def test_word_and_takes(self):
        for row, words in (("word S", []), ("take! r3 S", [19]), ("take r3 S", [19])):
            self.fits(row, -128, words + [128])
            self.fits(row, -1, words + [255])
            self.fits(row, 255, words + [255])
            self.fits_not(row, -129)
            self.fits_not(row, 256)
        self.fits("word 1 S", -128, [1, 128])
        self.fits_not("word 1 2 S", 256)

    def test_skip(self):
        self.fits("skip S", 2, [99, 0])
        self.fits("skip S", 129, [99, 127])
        self.fits("skip S", 1, [99, 255])
        self.fits("skip S", -126, [99, 128])
        self.fits_not("skip S", 130)
        self.fits_not("skip S", -127)
        self.fits("skip here+S", 129, [99, 127])
        self.assertEqual(written(text("at 254", "skip 383"))[254:], [99, 127])
        self.assertEqual(refused("at 254", "skip 384"), (1, "value"))
        self.assertEqual(written(text("at 100", "skip 100"))[100:], [99, 254])

    def test_at_and_room(self):
        self.fits("at S", 0, [])
        self.fits("at S", 256, [0] * 256)
        self.fits("room S", 0, [])
        self.fits("room S", 256, [0] * 256)
        for row in ("at S", "room S"):
            for worth in (-1, 257):
                with self.subTest(row=row, worth=worth):
                    self.assertEqual(refused("", row.replace("S", str(worth))), (1, "room"))

    def test_is(self):
        self.assertEqual(names_told("is a 9999+9999"), [("a", 19998)])
        self.assertEqual(names_told("is a -9999-1"), [("a", -10000)])

    def test_all_others(self):
        for row, words in (
            ("load r1 S", [81]), ("store r1 S", [85]), ("jump S", [96]), ("call S", [97]),
            ("zero r1 S", [101]), ("same r1 r2 S", [118]), ("copy 5 S", [128, 5]),
        ):
            self.fits(row, 0, words + [0])
            self.fits(row, 255, words + [255])
            self.fits_not(row, -1)
            self.fits_not(row, 256)
        self.fits("copy S 5", 255, [128, 255, 5])
        self.fits_not("copy S 5", -1)
        self.fits_not("copy S 5", 256)


if __name__ == "__main__":
    unittest.main()

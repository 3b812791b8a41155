"""[12]: followed, until, counted, said_by and used."""

import unittest

from rowscribe.errors import BadBegins, BadCount, BadRow
from rowscribe.follow import counted, followed, said_by, until, used
from rowscribe.machine import run
from rowscribe.writing import listed, names_told, written
from tests.helper import drawn_texts, text

COUNTDOWN = text(
    "; says 3, 2 and 1",
    "        take r0 3",
    "        take! r1 1",
    "again:  say r0",
    "",
    "        less r0 r1",
    "        zero r0 done",
    "        jump again",
    "done:   stop",
)

MACROS = text(
    "macro show p n",
    "  take p n",
    "  say p",
    "end",
    "macro twice p",
    "  show p 5",
    "  show p 60",
    "end",
    "start: twice r0",
    "  show r1 7",
    "  back",
)


class Followed(unittest.TestCase):
    def test_a_text(self):
        self.assertEqual(
            followed(COUNTDOWN, 0, 100), ([3, 2, 1], "stop", [1, 2, 3, 5, 6, 7, 3, 5, 6, 7, 3, 5, 6, 8]))

    def test_the_calling_row_for_rows_of_macros(self):
        self.assertEqual(followed(MACROS, 0, 100), ([5, 60, 7], "back", [8, 8, 8, 8, 9, 9, 10]))

    def test_a_place_in_the_middle(self):
        # from the further word 1 of take! on, which is back
        self.assertEqual(followed(COUNTDOWN, 2, 100), ([], "back", [None]))
        # 60 in the macro's take is add r3 r0, then it goes on by the text's rows
        self.assertEqual(followed(MACROS, 3, 100), ([0, 7], "back", [None, 8, 9, 9, 10]))
        self.assertEqual(followed("word 4 5 0", 0, 9), ([0, 0], "stop", [0, None, None]))

    def test_into_the_middle_and_out_again(self):
        # jump 3, in the middle of a word row, from where it jumps back to a row
        one = text("jump x+1", "x: word 9 96 5", "say r0", "stop")
        self.assertEqual(followed(one, 0, 9), ([0], "stop", [0, None, 2, 3]))

    def test_room_and_what_nothing_was_written_to(self):
        one = text("stop", "room 2", "at 6", "back")
        self.assertEqual([followed(one, place, 9)[2] for place in range(7)], [[0], [1], [None], [None], [None], [None], [3]])

    def test_rows_that_write_no_words_are_never_done(self):
        one = text("x:", "is a 5", "room 0", "at 0", "stop")
        self.assertEqual(followed(one, 0, 9), ([], "stop", [4]))

    def test_why_it_ends(self):
        self.assertEqual(followed("", 0, 9), ([], "end", []))
        self.assertEqual(followed("say r0", 0, 9), ([0], "end", [0]))
        self.assertEqual(followed("word 2", 0, 9), ([], "none", []))
        self.assertEqual(followed("x: call x", 0, 99), ([], "deep", [0] * 17))
        self.assertEqual(followed("x: jump x", 0, 3), ([], "", [0, 0, 0]))

    def test_counts_at_their_bounds(self):
        self.assertEqual(followed(COUNTDOWN, 0, 0), ([], "", []))
        self.assertEqual(followed(COUNTDOWN, 0, 14)[1], "stop")
        self.assertEqual(followed(COUNTDOWN, 0, 13)[1], "")
        self.assertEqual(len(followed("x: jump x", 0, 1000)[2]), 1000)

    def test_begins_at_their_bounds(self):
        self.assertEqual(followed(COUNTDOWN, 255, 9), ([], "end", []))
        self.assertEqual(followed("at 255\nsay r0", 255, 9), ([0], "end", [1]))

    def test_against_run_and_listed(self):
        for one in drawn_texts(80):
            rows = {place: row for row, place, words in listed(one)}
            for begin in (0, 1, 2, 5, 17, 255):
                says, why, places = run(written(one), begin, 200)
                expected = [rows[place] if place in rows else None for place in places]
                self.assertEqual(followed(one, begin, 200), (says, why, expected))

    def test_kinds_of_values(self):
        told = followed(MACROS, 0, 9)
        self.assertEqual([type(part) for part in (told, *told)], [tuple, list, str, list])


class Until(unittest.TestCase):
    def test_how_many_are_done_ahead(self):
        found = [until(COUNTDOWN, 0, row, 100) for row in range(9)]
        self.assertEqual(found, [None, 0, 1, 2, None, 3, 4, 5, 13])

    def test_a_macros_rows(self):
        self.assertEqual([until(MACROS, 0, row, 100) for row in (1, 5, 8, 9, 10)], [None, None, 0, 4, 6])

    def test_it_is_the_last_that_may_be_done(self):
        self.assertEqual(until(COUNTDOWN, 0, 8, 14), 13)
        self.assertEqual(until(COUNTDOWN, 0, 8, 13), None)
        self.assertEqual(until(COUNTDOWN, 0, 1, 1), 0)
        self.assertEqual(until(COUNTDOWN, 0, 1, 0), None)

    def test_places_in_the_middle_count_among_those_ahead(self):
        self.assertEqual(until("word 4 5 5\nstop", 0, 1, 9), 3)
        self.assertEqual(until("word 4 5 5\nstop", 1, 0, 9), None)

    def test_rows_that_the_text_has_not(self):
        for row in (9, 400, 1000, -1):
            self.assertEqual(until(COUNTDOWN, 0, row, 100), None)
        self.assertEqual(until("", 0, 0, 100), None)

    def test_against_followed(self):
        for one in drawn_texts(40):
            rows = followed(one, 0, 100)[2]
            for row in range(one.count("\n") + 2):
                expected = rows.index(row) if row in rows else None
                self.assertEqual(until(one, 0, row, 100), expected)


class Counted(unittest.TestCase):
    def test_how_often(self):
        self.assertEqual(counted(COUNTDOWN, 0, 100), [(1, 1), (2, 1), (3, 3), (5, 3), (6, 3), (7, 2), (8, 1)])
        self.assertEqual(counted(COUNTDOWN, 0, 7), [(1, 1), (2, 1), (3, 2), (5, 1), (6, 1), (7, 1)])

    def test_rows_of_macros(self):
        self.assertEqual(counted(MACROS, 0, 100), [(8, 4), (9, 2), (10, 1)])

    def test_places_in_the_middle_are_left_out(self):
        self.assertEqual(counted("word 4 5 0", 0, 9), [(0, 1)])
        self.assertEqual(counted("word 4 5 0", 1, 9), [])

    def test_they_rise(self):
        one = text("jump c", "a: stop", "b: jump a", "c: jump b")
        self.assertEqual(counted(one, 0, 9), [(0, 1), (1, 1), (2, 1), (3, 1)])

    def test_none_is_done(self):
        self.assertEqual(counted("", 0, 9), [])
        self.assertEqual(counted(COUNTDOWN, 0, 0), [])
        self.assertEqual(counted(COUNTDOWN, 255, 9), [])

    def test_a_thousand(self):
        self.assertEqual(counted("x: jump x", 0, 1000), [(0, 1000)])

    def test_against_followed(self):
        for one in drawn_texts(60):
            rows = [row for row in followed(one, 0, 300)[2] if row is not None]
            told = counted(one, 0, 300)
            self.assertEqual(told, sorted(told))
            self.assertEqual(dict(told), {row: rows.count(row) for row in rows})
            self.assertEqual([type(pair) for pair in told], [tuple] * len(told))


class SaidBy(unittest.TestCase):
    def test_what_is_said_from_each(self):
        self.assertEqual(said_by(COUNTDOWN, [0, 3, 9], 100), [[3, 2, 1], [0], []])
        self.assertEqual(said_by("say r0\ntake r0 5\nsay r0", [0, 1, 2, 3], 9), [[0, 5], [5], [0], []])

    def test_in_the_order_of_begins_and_alike_ones(self):
        self.assertEqual(said_by("say r0\ntake r0 5\nsay r0", [2, 0, 2], 9), [[0], [0, 5], [0]])

    def test_each_begins_anew(self):
        one = text("load r0 cell", "say r0", "take r1 9", "store r1 cell", "stop", "cell: word 3")
        self.assertEqual(said_by(one, [0, 0], 9), [[3], [3]])

    def test_bounds(self):
        self.assertEqual(said_by(COUNTDOWN, [], 0), [])
        self.assertEqual(said_by(COUNTDOWN, [0], 0), [[]])
        self.assertEqual(said_by("x: say r0\njump x", [0], 1000), [[0] * 500])
        self.assertEqual(said_by("say r0", [0, 255] * 8, 9), [[0], []] * 8)
        self.assertEqual(said_by("", [0, 1], 9), [[], []])

    def test_against_run(self):
        for one in drawn_texts(60):
            begins = [0, 4, 1, 4, 90]
            self.assertEqual(said_by(one, begins, 99), [run(written(one), begin, 99)[0] for begin in begins])


class Used(unittest.TestCase):
    def test_names_in_sums(self):
        self.assertEqual(used(COUNTDOWN), [("again", [7]), ("done", [6])])
        one = text("is k 2", "is n k+1", "at n", "room k", "a: take r0 a", "copy a n", "word 1 2+k-a", "skip a")
        self.assertEqual(used(one), [("a", [4, 5, 6, 7]), ("k", [1, 3, 6]), ("n", [2, 5])])

    def test_every_op(self):
        for row in (
            "take! r0 x", "take r0 x", "load r0 x", "store r0 x", "jump x", "call x", "skip x", "zero r0 x",
            "same r0 r1 x", "copy x 1", "copy 1 x", "word x", "word 1 2 x", "is y x", "y: jump x",
        ):
            with self.subTest(row=row):
                self.assertEqual(dict(used(f"x: stop\n\n{row}"))["x"], [2])

    def test_more_than_once_in_one(self):
        self.assertEqual(used(text("x: word x+x-x", "word x x 5-x", "copy x x")), [("x", [0, 1, 2])])

    def test_names_that_stand_in_no_sum(self):
        self.assertEqual(used("x: stop\nis y 5\nz:"), [("x", []), ("y", []), ("z", [])])
        self.assertEqual(used(""), [])
        self.assertEqual(used("word here 5"), [])

    def test_giving_a_name_is_not_using_it(self):
        self.assertEqual(used("x: jump y\ny: is z 5"), [("x", []), ("y", [0]), ("z", [])])

    def test_by_macros_calls(self):
        one = text("macro m p", "word p", "jump x", "end", "x: m y", "y: m 5", "m x+y")
        self.assertEqual(used(one), [("x", [4, 5, 6]), ("y", [4, 6])])

    def test_by_macros_within_others(self):
        one = text("macro in p", "word p k", "end", "macro out p", "in p+x", "end", "is k 1", "x:", "y: out y", "out 5")
        self.assertEqual(used(one), [("k", [8, 9]), ("x", [8, 9]), ("y", [8])])

    def test_macros_that_are_not_called_use_nothing(self):
        self.assertEqual(used(text("macro m", "jump x", "end", "x: stop")), [("x", [])])

    def test_what_is_handed_counts_where_it_comes_to_stand(self):
        self.assertEqual(used(text("macro m p", "stop", "end", "x: m x")), [("x", [])])

    def test_a_params_name_is_not_the_texts(self):
        one = text("macro m x", "word x", "end", "x: m 5", "m y", "y:")
        self.assertEqual(used(one), [("x", []), ("y", [4])])

    def test_none_of_a_calls_own(self):
        one = text("macro m p", "@x: jump @x", "is @y p+@x", "word @y", "end", "x: m x", "m 5")
        self.assertEqual(used(one), [("x", [5])])

    def test_names_of_macros_are_none(self):
        self.assertEqual(used(text("macro m", "stop", "end", "m", "m")), [])

    def test_names_that_macros_rows_give(self):
        self.assertEqual(used(text("macro m", "x: jump x", "end", "stop", "m", "jump x")), [("x", [4, 5])])

    def test_against_names_told(self):
        for one in drawn_texts(60):
            told = used(one)
            self.assertEqual([name for name, rows in told], [name for name, worth in names_told(one)])
            for name, rows in told:
                self.assertIs(type(rows), list)
                self.assertEqual(rows, sorted(set(rows)))
            self.assertEqual([type(pair) for pair in told], [tuple] * len(told))


class Refused(unittest.TestCase):
    def calls(self, one, begin, most):
        """All that runs a text, from this begin."""
        return (
            lambda: followed(one, begin, most), lambda: until(one, begin, 0, most),
            lambda: counted(one, begin, most), lambda: said_by(one, [begin], most),
        )

    def test_begins(self):
        for begin in (-1, 256, 1000, True):
            for call in self.calls("stop", begin, 9):
                with self.subTest(begin=begin), self.assertRaises(BadBegins) as caught:
                    call()
                self.assertEqual(caught.exception.number, 0)

    def test_counts(self):
        for most in (-1, 1001, False):
            for call in self.calls("stop", 0, most):
                with self.subTest(most=most), self.assertRaises(BadCount):
                    call()
            with self.assertRaises(BadCount):
                said_by("stop", [], most)

    def test_bounds_are_taken(self):
        for begin in (0, 255):
            for most in (0, 1000):
                for call in self.calls("stop", begin, most):
                    call()

    def test_lists_of_begins(self):
        for begins, number in (
            ([256], 0), ([0, -1], 1), ([0] * 17, 16), ([0] * 16 + [256], 16), ([0] * 15 + [256], 15), ([0, 300, -1], 1),
        ):
            with self.subTest(begins=begins), self.assertRaises(BadBegins) as caught:
                said_by("stop", begins, 9)
            self.assertEqual(caught.exception.number, number)

    def test_what_is_handed_in_first_is_refused_first(self):
        for call in self.calls("stop\nhalt", 256, 1001):
            with self.assertRaises(BadRow) as caught:
                call()
            self.assertEqual((caught.exception.row, caught.exception.why), (1, "form"))
        for call in self.calls("jump 256", 0, -1):
            with self.assertRaises(BadRow):
                call()
        for call in self.calls("stop", 256, 1001):
            with self.assertRaises(BadBegins):
                call()
        with self.assertRaises(BadBegins):
            said_by("stop", [0] * 17, -1)


if __name__ == "__main__":
    unittest.main()

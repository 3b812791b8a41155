"""[1] and [13], over the whole program."""

import copy
import random
import unittest

from rowscribe.alike import parts, plain
from rowscribe.errors import BadBegins, BadCount, BadRow, BadWords, ScribeError
from rowscribe.follow import counted, followed, said_by, until, used
from rowscribe.machine import run
from rowscribe.telling import come_to, middles, told
from rowscribe.writing import listed, names_told, written
from tests.helper import drawn_begins, drawn_texts, drawn_words


def calls_of_text(one):
    """(what, what it is handed) of all that reads a text."""
    return [
        (written, [one]), (listed, [one]), (names_told, [one]), (plain, [one]), (parts, [one, "word 1 2 3"]),
        (followed, [one, 0, 50]), (until, [one, 0, 12, 50]), (counted, [one, 0, 50]),
        (said_by, [one, [0, 3, 0], 50]), (used, [one]),
    ]


def calls_of_words(words, begins):
    """(what, what it is handed) of all that reads words."""
    return [
        (run, [words, 0, 50]), (come_to, [words, begins]), (middles, [words, begins]), (told, [words, begins]),
    ]


def spoil(value):
    """Changes all lists in what is told."""
    if isinstance(value, (list, tuple)):
        for inner in value:
            spoil(inner)
    if isinstance(value, list):
        value.append("spoilt")
        value.reverse()


def all_calls():
    """Calls over drawn texts and words."""
    draw = random.Random(1)
    calls = []
    for one in ["", "stop", *drawn_texts(40)]:
        calls += calls_of_text(one)
    for number in range(60):
        words = drawn_words(draw)
        calls += calls_of_words(words, drawn_begins(draw, words))
    return calls


class PromiseOne(unittest.TestCase):
    def test_what_is_handed_in_is_not_changed(self):
        for what, handed in all_calls():
            kept = copy.deepcopy(handed)
            what(*handed)
            self.assertEqual(handed, kept, what.__name__)

    def test_what_is_told_may_be_changed_and_the_same_is_told_again(self):
        for what, handed in all_calls():
            kept = copy.deepcopy(handed)
            first = what(*handed)
            again = copy.deepcopy(first)
            spoil(first)
            self.assertEqual(handed, kept, what.__name__)
            self.assertEqual(what(*handed), again, what.__name__)

    def test_lists_within_what_is_told_are_not_one(self):
        lists = said_by("say r0", [0, 0, 0], 9)
        lists[0].append(5)
        self.assertEqual(lists, [[0, 5], [0], [0]])
        pairs = used("x: stop\ny: stop\nword x+y")
        pairs[0][1].append(9)
        self.assertEqual(pairs, [("x", [2, 9]), ("y", [2])])

    def test_what_is_handed_in_is_not_kept(self):
        words, begins = [4, 96, 0], [0]
        before = told(words, begins), come_to(words, begins)
        words[0] = 5
        begins.append(1)
        self.assertNotEqual(told(words, begins), before[0])
        self.assertEqual((told([4, 96, 0], [0]), come_to([4, 96, 0], [0])), before)


class PromiseThirteen(unittest.TestCase):
    def test_what_runs_do_is_come_to(self):
        draw = random.Random(13)
        without = done = 0
        for number in range(800):
            words = drawn_words(draw)
            begins = drawn_begins(draw, words)
            if middles(words, begins):
                continue
            without += 1
            places = {place for place, op in come_to(words, begins)}
            for begin in begins:
                run_places = run(words, begin, 300)[2]
                self.assertLessEqual(set(run_places), places, (words, begins))
                done += len(run_places)
        # the draw is of use only if many rows are done
        self.assertGreater(without, 200)
        self.assertGreater(done, 2000)

    def test_of_texts_without_word_rows(self):
        one = "call x\nsay r0\nstop\nx: take r0 9\nzero r1 y\nback\ny: back"
        self.assertEqual(middles(written(one), [0]), [])
        self.assertEqual(
            [place for place, op in come_to(written(one), [0])], [place for row, place, words in listed(one)])


class Refusals(unittest.TestCase):
    def test_all_are_a_scribe_error_and_a_value_error(self):
        for what, handed, kind in (
            (run, [[256], 0, 0], BadWords), (come_to, [[256], []], BadWords), (middles, [[256], []], BadWords),
            (told, [[256], []], BadWords), (run, [[], 256, 0], BadBegins), (come_to, [[], [256]], BadBegins),
            (middles, [[], [256]], BadBegins), (told, [[], [256]], BadBegins), (run, [[], 0, 1001], BadCount),
            (followed, ["", 256, 0], BadBegins), (followed, ["", 0, 1001], BadCount), (until, ["", 256, 0, 0], BadBegins),
            (until, ["", 0, 0, 1001], BadCount), (counted, ["", 256, 0], BadBegins), (counted, ["", 0, 1001], BadCount),
            (said_by, ["", [256], 0], BadBegins), (said_by, ["", [], 1001], BadCount),
            *[(what, ["halt", *handed[1:]], BadRow) for what, handed in calls_of_text("")],
            (parts, ["", "halt"], BadRow),
        ):
            with self.subTest(what=what.__name__, handed=handed):
                with self.assertRaises(kind) as caught:
                    what(*handed)
                self.assertIsInstance(caught.exception, ScribeError)
                self.assertIsInstance(caught.exception, ValueError)


if __name__ == "__main__":
    unittest.main()

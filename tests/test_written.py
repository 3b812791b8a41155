"""[9] and [1]: written, listed and names_told."""

import unittest

from rowscribe.machine import run
from rowscribe.writing import listed, names_told, written

COUNTDOWN = """
; says 9, 8 and so on down to 1
is start 9
        take r0 start
        take r1 1
again:  say r0
        less r0 r1
        zero r0 done
        jump again
done:   stop
"""

WITH_MACROS = """macro inc p n
  load r3 n
  take p one
  zero r3 @out
  add p r3
@out: store p n
end
macro both n
  inc r0 n
  inc r1 n+1
end
is one 1
  skip main
cells: word 5 -1
main: both cells
  stop
"""


class Written(unittest.TestCase):
    def test_the_empty_text(self):
        for text in ("", "\n", " \n ; none\n\n"):
            with self.subTest(text=text):
                self.assertEqual(written(text), [])
                self.assertEqual(listed(text), [])
                self.assertEqual(names_told(text), [])

    def test_a_text(self):
        self.assertEqual(written(COUNTDOWN), [16, 9, 153, 4, 65, 100, 9, 96, 3, 0])
        self.assertEqual(listed(COUNTDOWN), [
            (3, 0, (16, 9)), (4, 2, (153,)), (5, 3, (4,)), (6, 4, (65,)), (7, 5, (100, 9)), (8, 7, (96, 3)),
            (9, 9, (0,)),
        ])
        self.assertEqual(names_told(COUNTDOWN), [("again", 3), ("done", 9), ("start", 9)])
        self.assertEqual(run(written(COUNTDOWN), 0, 100)[:2], ([9, 8, 7, 6, 5, 4, 3, 2, 1], "stop"))

    def test_at_and_room(self):
        text = "word 1\na: at 4\nb: room 2\nc: word 2\nroom 0\nd: at 9\ne:"
        self.assertEqual(written(text), [1, 0, 0, 0, 0, 0, 2, 0, 0])
        self.assertEqual(listed(text), [(0, 0, (1,)), (2, 4, (0, 0)), (3, 6, (2,))])
        self.assertEqual(names_told(text), [("a", 1), ("b", 4), ("c", 6), ("d", 7), ("e", 9)])

    def test_at_256(self):
        self.assertEqual(written("stop\nat 256\nx:"), [0] * 256)
        self.assertEqual(listed("back\nat 256\nx:"), [(0, 0, (1,))])
        self.assertEqual(names_told("stop\nat 256\nx:"), [("x", 256)])

    def test_words_end_where_a_next_row_would_lie(self):
        self.assertEqual(written("word 1 2\nroom 2"), [1, 2, 0, 0])
        self.assertEqual(written("word 1 2\nat 5\nis a 9\nx:"), [1, 2, 0, 0, 0])

    def test_all_256_words(self):
        text = "\n".join(["word 1 2 3 4 5 6 7 8"] * 32)
        self.assertEqual(written(text), [1, 2, 3, 4, 5, 6, 7, 8] * 32)
        self.assertEqual(listed(text)[31], (31, 248, (1, 2, 3, 4, 5, 6, 7, 8)))

    def test_macros(self):
        self.assertEqual(written(WITH_MACROS), [
            99, 2, 5, 255,
            83, 2, 145, 103, 10, 51, 84, 2,
            83, 3, 153, 103, 18, 55, 85, 3,
            0,
        ])
        self.assertEqual([row for row, place, words in listed(WITH_MACROS)], [12, 13] + [14] * 10 + [15])
        self.assertEqual(listed(WITH_MACROS)[5], (14, 9, (51,)))
        self.assertEqual(names_told(WITH_MACROS), [("cells", 2), ("main", 4), ("one", 1)])

    def test_names_of_macros_and_params_are_not_told(self):
        self.assertEqual(names_told("macro m p\nx: word p\nis y p\nend\nm 5"), [("x", 0), ("y", 5)])

    def test_names_rise(self):
        text = "is b 1\nis ab 2\na:\nis aa 3\nz:\nis zz -4"
        self.assertEqual(names_told(text), [("a", 0), ("aa", 3), ("ab", 2), ("b", 1), ("z", 0), ("zz", -4)])

    def test_listed_makes_up_what_is_written(self):
        for text in (COUNTDOWN, WITH_MACROS, "word 3\nat 99\nword 4 5\nroom 7\nat 120"):
            with self.subTest(text=text):
                words = [0] * len(written(text))
                for row, place, part in listed(text):
                    words[place:place + len(part)] = part
                self.assertEqual(words, written(text))

    def test_kinds_of_values(self):
        self.assertIs(type(written(COUNTDOWN)), list)
        self.assertIs(type(listed(COUNTDOWN)), list)
        self.assertIs(type(listed(COUNTDOWN)[0]), tuple)
        self.assertIs(type(listed(COUNTDOWN)[0][2]), tuple)
        self.assertIs(type(names_told(COUNTDOWN)), list)
        self.assertIs(type(names_told(COUNTDOWN)[0]), tuple)


class PromiseOne(unittest.TestCase):
    def test_what_is_told_may_be_changed(self):
        for told in (written, listed, names_told):
            with self.subTest(told=told.__name__):
                first = told(WITH_MACROS)
                kept = list(first)
                first.append(0)
                first[0] = 99
                self.assertEqual(told(WITH_MACROS), kept)
                first.clear()
                self.assertEqual(told(WITH_MACROS), kept)

    def test_asked_again_the_same_is_told(self):
        for text in ("", COUNTDOWN, WITH_MACROS):
            for told in (written, listed, names_told):
                with self.subTest(told=told.__name__, text=text):
                    self.assertEqual(told(text), told(text))

    def test_a_text_does_not_change_what_another_tells(self):
        before = written(COUNTDOWN)
        written("macro m\nstop\nend\nagain: m\nis done 5")
        self.assertEqual(written(COUNTDOWN), before)

    def test_numbers_are_whole(self):
        for row, place, words in listed(WITH_MACROS):
            for number in (row, place, *words):
                self.assertIs(type(number), int)
        for name, worth in names_told(WITH_MACROS):
            self.assertIs(type(worth), int)


if __name__ == "__main__":
    unittest.main()

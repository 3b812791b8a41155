"""[2] and [3]: the machine's rows, their words, and runs."""

import unittest

from rowscribe.errors import BadBegins, BadCount, BadWords
from rowscribe.machine import run

HELD = [10, 20, 30, 40]
# take! r0 10, r1 20, r2 30, r3 40
SET_UP = [16, 10, 17, 20, 18, 30, 19, 40]
# say r0 to r3, stop
TELL = [4, 5, 6, 7, 0]

NO_ROWS = (
    [2, 3] + list(range(8, 16)) + list(range(20, 32)) + list(range(88, 96)) + [98]
    + list(range(104, 112)) + list(range(129, 144)) + list(range(176, 256))
)
ONE_FURTHER = (
    list(range(16, 20)) + list(range(80, 88)) + [96, 97, 99]
    + list(range(100, 104)) + list(range(112, 128))
)
NONE_FURTHER = [0, 1] + list(range(4, 8)) + list(range(32, 80)) + list(range(144, 176))


def boxes_after(row):
    """What the boxes hold behind a row."""
    says, why, places = run(SET_UP + row + TELL, 0, 1000)
    assert why == "stop", why
    return says


def goes_on_at(row):
    """The place of the row that is done behind a row at 8."""
    return run(SET_UP + row + [0] * 240, 0, 6)[2][5]


class FirstWords(unittest.TestCase):
    def test_the_lists_here_are_whole(self):
        self.assertEqual(sorted(NO_ROWS + ONE_FURTHER + NONE_FURTHER + [128]), list(range(256)))

    def test_words_that_are_no_rows(self):
        for word in NO_ROWS:
            with self.subTest(word=word):
                self.assertEqual(run([word, 0, 0, 0], 0, 5), ([], "none", []))

    def test_words_that_need_no_further_one(self):
        for word in NONE_FURTHER:
            with self.subTest(word=word):
                self.assertEqual(run([word], 0, 1)[2], [0])

    def test_words_that_lack_a_further_one(self):
        for word in ONE_FURTHER:
            with self.subTest(word=word):
                self.assertEqual(run([word], 0, 5), ([], "none", []))
                self.assertEqual(run([word, 0], 0, 1), ([], "", [0]))
        self.assertEqual(run([128], 0, 5), ([], "none", []))
        self.assertEqual(run([128, 0], 0, 5), ([], "none", []))
        self.assertEqual(run([128, 0, 0], 0, 5), ([], "end", [0]))

    def test_a_row_lacks_words_at_256_too(self):
        self.assertEqual(run([0] * 255 + [96], 255, 5), ([], "none", []))
        self.assertEqual(run([0] * 254 + [16, 9], 254, 5), ([], "end", [254]))


class Rows(unittest.TestCase):
    def test_stop(self):
        self.assertEqual(run([0, 4], 0, 9), ([], "stop", [0]))

    def test_say(self):
        for box in range(4):
            with self.subTest(box=box):
                self.assertEqual(run(SET_UP + [4 + box, 0], 0, 9)[0], [HELD[box]])

    def test_take_with_a_further_word(self):
        for box in range(4):
            for number in (0, 7, 8, 128, 255):
                with self.subTest(box=box, number=number):
                    expected = list(HELD)
                    expected[box] = number
                    self.assertEqual(boxes_after([16 + box, number]), expected)

    def test_take_without_a_further_word(self):
        for box in range(4):
            for number in range(8):
                with self.subTest(box=box, number=number):
                    expected = list(HELD)
                    expected[box] = number
                    self.assertEqual(boxes_after([144 + 8 * box + number]), expected)

    def test_move_add_less(self):
        for p in range(4):
            for q in range(4):
                with self.subTest(p=p, q=q):
                    moved, added, lessened = list(HELD), list(HELD), list(HELD)
                    moved[p] = HELD[q]
                    added[p] = HELD[p] + HELD[q]
                    lessened[p] = (HELD[p] - HELD[q]) % 256
                    self.assertEqual(boxes_after([32 + 4 * p + q]), moved)
                    self.assertEqual(boxes_after([48 + 4 * p + q]), added)
                    self.assertEqual(boxes_after([64 + 4 * p + q]), lessened)

    def test_sums_and_differences_by_256(self):
        # r0 gets 200, 200 more, then 0 less 1 in r1
        self.assertEqual(run([16, 200, 48, 4, 0], 0, 9)[0], [144])
        self.assertEqual(run([16, 128, 48, 4, 0], 0, 9)[0], [0])
        self.assertEqual(run([145, 68, 5, 0], 0, 9)[0], [255])

    def test_load(self):
        for box in range(4):
            with self.subTest(box=box):
                expected = list(HELD)
                expected[box] = 19
                self.assertEqual(boxes_after([80 + box, 6]), expected)

    def test_store(self):
        for box in range(4):
            with self.subTest(box=box):
                # the cell 200 to r0 behind it
                expected = [HELD[box]] + HELD[1:]
                self.assertEqual(boxes_after([84 + box, 200, 80, 200]), expected)

    def test_copy(self):
        # the cell 255 gets the cell 1, 10; r3 gets the cell 255
        self.assertEqual(boxes_after([128, 1, 255, 83, 255]), [10, 20, 30, 10])
        self.assertEqual(boxes_after([128, 255, 1, 83, 1]), [10, 20, 30, 0])

    def test_jump(self):
        self.assertEqual(run([96, 3, 0, 4, 0], 0, 9), ([0], "stop", [0, 3, 4]))
        self.assertEqual(run([96, 0], 0, 3), ([], "", [0, 0, 0]))

    def test_call_and_back(self):
        # call 4, say r0, stop; take r0 5, back
        self.assertEqual(run([97, 4, 4, 0, 149, 1], 0, 9), ([5], "stop", [0, 4, 5, 2, 3]))

    def test_back_goes_behind_the_last_call(self):
        # call 3, stop; call 6, back; back
        self.assertEqual(run([97, 3, 0, 97, 6, 1, 1], 0, 9), ([], "stop", [0, 3, 6, 5, 2]))

    def test_skip(self):
        self.assertEqual(goes_on_at([99, 0]), 10)
        self.assertEqual(goes_on_at([99, 127]), 137)
        self.assertEqual(run([0] * 200 + [99, 128], 200, 2)[2], [200, 74])
        self.assertEqual(run([0, 99, 253], 1, 9), ([], "stop", [1, 0]))
        self.assertEqual(run([4, 99, 255, 0], 1, 9), ([], "none", [1]))

    def test_zero(self):
        for box in range(4):
            with self.subTest(box=box):
                self.assertEqual(goes_on_at([100 + box, 100]), 10)
                self.assertEqual(run([100 + box, 5, 0, 0, 0, 4, 0], 0, 2)[2], [0, 5])

    def test_same(self):
        for p in range(4):
            for q in range(4):
                with self.subTest(p=p, q=q):
                    goal = 100 if p == q else 10
                    self.assertEqual(goes_on_at([112 + 4 * p + q, 100]), goal)
        # r1 and r2 both hold 20
        self.assertEqual(run(SET_UP + [18, 20, 118, 14, 4, 0, 5, 0], 0, 20)[0], [20])

    def test_cells_are_the_words_and_then_nought(self):
        # r0 gets the last word, then the cell behind it
        self.assertEqual(run([80, 7, 4, 80, 8, 4, 0, 99], 0, 9)[0], [99, 0])

    def test_boxes_hold_nought_at_first(self):
        self.assertEqual(run([4, 5, 6, 7, 0], 0, 9)[0], [0, 0, 0, 0])

    def test_store_and_copy_change_cells_alone(self):
        # r0 gets 4, the cell 5 gets it, but at 5 still stop lies
        self.assertEqual(run([16, 4, 84, 5, 147, 0, 0], 0, 9), ([], "stop", [0, 2, 4, 5]))
        # the cell 3 gets the cell 4, 4; at 3 still stop lies; the cell is changed
        self.assertEqual(run([128, 4, 3, 0, 4], 0, 9), ([], "stop", [0, 3]))
        self.assertEqual(run([128, 7, 6, 80, 6, 4, 0, 77], 0, 9), ([77], "stop", [0, 3, 5, 6]))

    def test_cells_behind_the_words_are_no_rows(self):
        # the cell 4 gets 0, which would be stop
        self.assertEqual(run([84, 4, 144, 144], 0, 9), ([], "end", [0, 2, 3]))


class Ends(unittest.TestCase):
    def test_stop_wins_at_the_last_row(self):
        self.assertEqual(run([4, 0], 0, 2), ([0], "stop", [0, 1]))
        self.assertEqual(run([4, 0], 0, 1), ([0], "", [0]))

    def test_back(self):
        self.assertEqual(run([1], 0, 9), ([], "back", [0]))
        # call 2, which goes back behind the call, to itself
        self.assertEqual(run([97, 2, 1], 0, 9), ([], "back", [0, 2, 2]))

    def test_deep(self):
        self.assertEqual(run([97, 0], 0, 1000), ([], "deep", [0] * 17))
        self.assertEqual(run([97, 0], 0, 17), ([], "deep", [0] * 17))
        self.assertEqual(run([97, 0], 0, 16), ([], "", [0] * 16))

    def test_calls_that_are_done_do_not_count(self):
        # call 4, jump 0; back
        self.assertEqual(run([97, 4, 96, 0, 1], 0, 1000)[1], "")
        # sixteen calls within one another, then back from all of them
        words = []
        for place in range(0, 48, 3):
            words += [97, place + 3, 1]
        says, why, places = run(words + [1], 0, 1000)
        self.assertEqual((why, len(places)), ("back", 33))

    def test_none(self):
        self.assertEqual(run([4, 2], 0, 9), ([0], "none", [0]))
        self.assertEqual(run([2], 0, 1), ([], "none", []))

    def test_end(self):
        self.assertEqual(run([4], 0, 9), ([0], "end", [0]))
        self.assertEqual(run([], 0, 9), ([], "end", []))
        self.assertEqual(run([0], 1, 9), ([], "end", []))
        self.assertEqual(run([96, 200], 0, 9), ([], "end", [0]))
        self.assertEqual(run([0] * 255 + [4], 255, 9), ([0], "end", [255]))

    def test_end_below_nought(self):
        self.assertEqual(run([99, 253, 0], 0, 9), ([], "end", [0]))
        self.assertEqual(run([99, 128] + [0] * 254, 0, 9), ([], "end", [0]))

    def test_end_beyond_the_words(self):
        self.assertEqual(run([99, 127], 0, 9), ([], "end", [0]))
        self.assertEqual(run([0] * 254 + [99, 127], 254, 9), ([], "end", [254]))

    def test_not_by_then(self):
        self.assertEqual(run([0], 0, 0), ([], "", []))
        self.assertEqual(run([], 0, 0), ([], "", []))
        self.assertEqual(run([2], 0, 0), ([], "", []))
        # the next place isn't looked at: none, end
        self.assertEqual(run([4, 2], 0, 1), ([0], "", [0]))
        self.assertEqual(run([4], 0, 1), ([0], "", [0]))
        self.assertEqual(run([99, 253], 0, 1), ([], "", [0]))

    def test_a_thousand_rows(self):
        says, why, places = run([96, 0], 0, 1000)
        self.assertEqual((says, why, len(places)), ([], "", 1000))

    def test_kinds_of_values(self):
        told = run([4, 0], 0, 5)
        self.assertEqual([kind.__name__ for kind in map(type, told)], ["list", "str", "list"])
        self.assertIs(type(told), tuple)


class Refused(unittest.TestCase):
    def words_refused(self, words):
        with self.assertRaises(BadWords) as caught:
            run(words, 0, 0)
        return caught.exception.number

    def test_words(self):
        run([0, 255], 0, 0)
        run([255] * 256, 0, 0)
        self.assertEqual(self.words_refused([-1]), 0)
        self.assertEqual(self.words_refused([0, 255, 256]), 2)
        self.assertEqual(self.words_refused([0, 300, -5]), 1)
        self.assertEqual(self.words_refused([0] * 255 + [256]), 255)

    def test_too_many_words(self):
        self.assertEqual(self.words_refused([0] * 257), 256)
        self.assertEqual(self.words_refused([0] * 300), 256)
        self.assertEqual(self.words_refused([0] * 256 + [999]), 256)
        self.assertEqual(self.words_refused([0] * 9 + [999] + [0] * 300), 9)

    def test_begin(self):
        run([0], 0, 0)
        run([0], 255, 0)
        for begin in (-1, 256, 1000):
            with self.subTest(begin=begin), self.assertRaises(BadBegins) as caught:
                run([0], begin, 0)
            self.assertEqual(caught.exception.number, 0)

    def test_most(self):
        run([0], 0, 0)
        run([0], 0, 1000)
        for most in (-1, 1001):
            with self.subTest(most=most), self.assertRaises(BadCount):
                run([0], 0, most)

    def test_true_and_false_are_no_numbers(self):
        self.assertEqual(self.words_refused([1, True]), 1)
        with self.assertRaises(BadBegins):
            run([0], False, 0)
        with self.assertRaises(BadCount):
            run([0], 0, True)

    def test_what_is_handed_in_first_is_refused_first(self):
        with self.assertRaises(BadWords):
            run([256], -1, -1)
        with self.assertRaises(BadWords):
            run([0] * 257, 256, 5)
        with self.assertRaises(BadWords):
            run([-1], 0, 1001)
        with self.assertRaises(BadBegins):
            run([0], -1, -1)


class PromiseOne(unittest.TestCase):
    def test_what_is_handed_in_is_not_changed(self):
        words = [16, 4, 84, 0, 128, 0, 1, 0]
        run(words, 0, 1000)
        self.assertEqual(words, [16, 4, 84, 0, 128, 0, 1, 0])

    def test_what_is_told_may_be_changed(self):
        words = [4, 0]
        says, why, places = run(words, 0, 9)
        says.append(5)
        places.clear()
        self.assertEqual(run(words, 0, 9), ([0], "stop", [0, 1]))
        self.assertEqual(words, [4, 0])

    def test_asked_again_the_same_is_told(self):
        words = [16, 9, 84, 40, 80, 40, 4, 97, 0]
        self.assertEqual(run(words, 0, 100), run(words, 0, 100))


if __name__ == "__main__":
    unittest.main()

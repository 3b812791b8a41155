"""[10] and [11]: come_to, middles and told."""

import random
import re
import unittest

from rowscribe.errors import BadBegins, BadWords
from rowscribe.telling import come_to, middles, told
from rowscribe.writing import listed, names_told, written
from tests.helper import ROWS, drawn_begins, drawn_words, goal_at, row_lies

TELLERS = (come_to, middles, told)


def slow(words, begins):
    """(come_to, middles), step by step by the words of the document."""
    waiting = [(place, -1) for place in begins]
    starts, apart = [], set()
    while waiting:
        waiting.sort()
        (place, origin), waiting = waiting[0], waiting[1:]
        if place in starts or not 0 <= place < len(words):
            continue
        row = row_lies(words, place)
        taken = {start + k for start in starts for k in range(row_lies(words, start)[1])}
        mine = {place + k for k in range(row[1])} if row else {place}
        if mine & taken:
            apart.add((origin, place))
        elif row:
            starts.append(place)
            if goal_at(words, place) is not None:
                waiting.append((goal_at(words, place), place))
            if row[0] not in ("stop", "back", "jump", "skip"):
                waiting.append((place + row[1], place))
    return [(place, row_lies(words, place)[0]) for place in sorted(starts)], sorted(apart)


class Ways(unittest.TestCase):
    def comes(self, words, begins, rows, apart=()):
        with self.subTest(words=words, begins=begins):
            self.assertEqual(come_to(words, begins), rows)
            self.assertEqual(middles(words, begins), list(apart))
            self.assertEqual(slow(words, begins), (rows, list(apart)))


class ComeTo(Ways):
    def test_every_op(self):
        for first, (op, size) in ROWS.items():
            goes = {"jump": 3, "call": 3, "zero": 3, "same": 3, "skip": 2}
            further = [3] * (size - 1)
            if op == "skip":
                further = [1]
            words = [first] + further + [0, 0, 0]
            rows = [(0, op)]
            if op in goes:
                rows.append((3, "stop"))
            if op not in ("stop", "back", "jump", "skip"):
                rows.append((size, "stop"))
            self.comes(words, [0], sorted(set(rows)))

    def test_the_short_and_the_long_take(self):
        self.comes([151, 16, 7, 19, 200, 175], [0], [(0, "take"), (1, "take!"), (3, "take!"), (5, "take")])

    def test_words_that_are_no_rows(self):
        for word in range(256):
            if word not in ROWS:
                self.comes([word, 0, 0], [0], [])
                self.comes([4, word, 0, 0], [0], [(0, "say")])

    def test_goals(self):
        self.comes([96, 4, 0, 0, 1], [0], [(0, "jump"), (4, "back")])
        self.comes([97, 4, 0, 0, 1], [0], [(0, "call"), (2, "stop"), (4, "back")])
        self.comes([99, 2, 0, 0, 1], [0], [(0, "skip"), (4, "back")])
        self.comes([102, 4, 0, 0, 1], [0], [(0, "zero"), (2, "stop"), (4, "back")])
        self.comes([118, 4, 0, 0, 1], [0], [(0, "same"), (2, "stop"), (4, "back")])

    def test_other_numbers_are_no_goals(self):
        self.comes([16, 4, 0, 0, 1], [0], [(0, "take!"), (2, "stop")])
        self.comes([80, 4, 0, 0, 1], [0], [(0, "load"), (2, "stop")])
        self.comes([84, 4, 0, 0, 1], [0], [(0, "store"), (2, "stop")])
        self.comes([128, 4, 5, 0, 1, 1], [0], [(0, "copy"), (3, "stop")])

    def test_skips(self):
        self.comes([0, 0, 99, 253], [2], [(1, "stop"), (2, "skip")])
        self.comes([99, 0, 1], [0], [(0, "skip"), (2, "back")])
        self.comes([99, 254], [0], [(0, "skip")])
        self.comes([99, 127] + [0] * 254, [0], [(0, "skip"), (129, "stop")])
        self.comes([0] * 126 + [99, 128], [126], [(0, "stop"), (126, "skip")])

    def test_goals_where_no_word_lies(self):
        self.comes([96, 255], [0], [(0, "jump")])
        self.comes([96, 2], [0], [(0, "jump")])
        self.comes([99, 253, 0], [0], [(0, "skip")])
        self.comes([99, 128, 0], [0], [(0, "skip")])
        self.comes([0] * 254 + [99, 127], [254], [(254, "skip")])
        self.comes([0] * 255 + [4], [255], [(255, "say")])

    def test_round_and_round(self):
        self.comes([4, 96, 0], [0], [(0, "say"), (1, "jump")])
        self.comes([97, 0], [0], [(0, "call")])
        self.comes([96, 0], [0], [(0, "jump")])

    def test_no_begins(self):
        self.comes([0, 4, 96, 0], [], [])

    def test_no_words(self):
        self.comes([], [], [])
        self.comes([], [0, 0, 255], [])

    def test_begins_where_no_word_lies(self):
        self.comes([4, 0], [2, 255], [])
        self.comes([4, 0], [2, 1], [(1, "stop")])

    def test_begins_alike(self):
        self.comes([4, 0], [0, 0, 0], [(0, "say"), (1, "stop")])
        self.comes([2, 0], [0, 0], [])

    def test_the_order_of_begins_does_not_matter(self):
        self.comes([4, 0, 5, 0], [2, 0], [(0, "say"), (1, "stop"), (2, "say"), (3, "stop")])
        self.comes([96, 0, 0], [1, 0], [(0, "jump")], [(-1, 1)])

    def test_words_at_the_end_that_lack_further_ones(self):
        self.comes([4, 96], [0, 1], [(0, "say")])
        self.comes([4, 128, 0], [0], [(0, "say")])
        self.comes([4, 128, 0, 0], [0], [(0, "say"), (1, "copy")])
        self.comes([0] * 255 + [16], [255], [])

    def test_what_lies_behind_nothing_is_not_come_to(self):
        self.comes([0, 4, 1, 5], [0], [(0, "stop")])
        self.comes([4, 2, 0], [0], [(0, "say")])


class Middles(Ways):
    def test_a_begin_in_the_middle(self):
        self.comes([16, 0, 0], [0, 1], [(0, "take!"), (2, "stop")], [(-1, 1)])
        self.comes([128, 0, 0, 0], [0, 1, 2], [(0, "copy"), (3, "stop")], [(-1, 1), (-1, 2)])

    def test_a_begin_in_the_middle_where_no_row_lies(self):
        self.comes([16, 200, 0], [0, 1], [(0, "take!"), (2, "stop")], [(-1, 1)])

    def test_begins_alike_in_the_middle(self):
        self.comes([16, 0, 0], [0, 1, 1], [(0, "take!"), (2, "stop")], [(-1, 1)])
        self.comes([16, 0, 0], [1, 0, 1], [(0, "take!"), (2, "stop")], [(-1, 1)])
        self.comes([16, 0, 0], [0] + [1] * 15, [(0, "take!"), (2, "stop")], [(-1, 1)])
        # where no row lies, and two places by turns
        self.comes([16, 200, 0], [1, 0, 1], [(0, "take!"), (2, "stop")], [(-1, 1)])
        self.comes([128, 0, 0, 0], [2, 1, 0, 2, 1], [(0, "copy"), (3, "stop")], [(-1, 1), (-1, 2)])

    def test_begins_alike_in_the_middle_and_rows_that_lead_there(self):
        self.comes([16, 0, 96, 1], [0, 1, 1], [(0, "take!"), (2, "jump")], [(-1, 1), (2, 1)])
        self.comes([16, 0, 97, 1, 96, 1], [1, 0, 1], [(0, "take!"), (2, "call"), (4, "jump")],
                   [(-1, 1), (2, 1), (4, 1)])

    def test_a_row_that_leads_into_the_middle(self):
        self.comes([16, 4, 96, 1], [0], [(0, "take!"), (2, "jump")], [(2, 1)])
        self.comes([16, 4, 97, 1, 0], [0], [(0, "take!"), (2, "call"), (4, "stop")], [(2, 1)])
        self.comes([16, 4, 100, 1, 0], [0], [(0, "take!"), (2, "zero"), (4, "stop")], [(2, 1)])
        self.comes([16, 4, 112, 1, 0], [0], [(0, "take!"), (2, "same"), (4, "stop")], [(2, 1)])
        self.comes([16, 4, 99, 253, 0], [0], [(0, "take!"), (2, "skip")], [(2, 1)])

    def test_a_row_that_leads_into_its_own_middle(self):
        self.comes([96, 1], [0], [(0, "jump")], [(0, 1)])
        self.comes([99, 255], [0], [(0, "skip")], [(0, 1)])

    def test_a_row_whose_further_word_is_one_of_another(self):
        # the further word of take! is another row's first word
        self.comes([96, 3, 16, 96, 2, 0], [0], [(0, "jump"), (3, "jump")], [(3, 2)])
        self.comes([96, 4, 0, 16, 4, 96, 3], [0], [(0, "jump"), (4, "say"), (5, "jump")], [(5, 3)])
        # the last of two further words alone
        self.comes([96, 5, 0, 128, 0, 4, 96, 3], [0], [(0, "jump"), (5, "say"), (6, "jump")], [(6, 3)])

    def test_the_place_behind_is_apart(self):
        # jump 4; say at 4; jump 3 at 5; behind say at 3 lies 4 again, which is not apart
        self.comes([96, 4, 2, 4, 4, 96, 3], [0], [(0, "jump"), (3, "say"), (4, "say"), (5, "jump")])
        # jump 4; jump 2 at 4; take! at 2 has its further word at 3, behind it lies 4
        self.comes([96, 4, 16, 9, 96, 2], [0], [(0, "jump"), (2, "take!"), (4, "jump")])
        # skip to 5, where jump 3 lies; say at 3, and behind it at 4 take! runs into 5
        self.comes([99, 3, 0, 4, 16, 96, 3], [0], [(0, "skip"), (3, "say"), (5, "jump")], [(3, 4)])

    def test_the_least_place_waits_no_more_first(self):
        # 3 waits before 2 is led to; by then 3 is a row's, so that 2's row runs into it
        self.comes([96, 3, 16, 4, 96, 2], [0], [(0, "jump"), (3, "say"), (4, "jump")], [(4, 2)])
        # with a begin at 2 the row there is come to first, and 3 is apart
        self.comes([96, 3, 16, 4, 96, 2], [0, 2], [(0, "jump"), (2, "take!"), (4, "jump")], [(0, 3)])
        # it is the least that goes on, not the one that has waited longest
        self.comes([97, 6, 97, 5, 0, 16, 0, 0], [0], [
            (0, "call"), (2, "call"), (4, "stop"), (5, "take!"), (7, "stop")], [(0, 6)])

    def test_a_begin_waits_no_more_ahead_of_what_is_led_to_the_same_place(self):
        self.comes([96, 1], [0, 1], [(0, "jump")], [(-1, 1), (0, 1)])

    def test_all_that_lead_to_one_place(self):
        self.comes([16, 4, 97, 1, 97, 1, 96, 1], [0, 1],
                   [(0, "take!"), (2, "call"), (4, "call"), (6, "jump")], [(-1, 1), (2, 1), (4, 1), (6, 1)])

    def test_they_rise_by_from_and_then_by_place(self):
        self.comes([128, 0, 0, 97, 2, 97, 1, 112, 2, 96, 1], [2, 0, 1],
                   [(0, "copy"), (3, "call"), (5, "call"), (7, "same"), (9, "jump")],
                   [(-1, 1), (-1, 2), (3, 2), (5, 1), (7, 2), (9, 1)])

    def test_a_goal_that_is_the_place_behind(self):
        # both lead from 3 to 5, where take! runs into the say at 6
        self.comes([96, 6, 0, 100, 5, 16, 4, 96, 3], [0],
                   [(0, "jump"), (3, "zero"), (6, "say"), (7, "jump")], [(3, 5)])
        # so of each row that has both
        for first, op in ((97, "call"), (100, "zero"), (112, "same")):
            self.comes([first, 2, 16, 96, 0], [3], [(0, op), (3, "jump")], [(0, 2)])

    def test_a_goal_that_is_the_place_behind_and_begins_alike(self):
        # the begin at 2 waits no more ahead of the one at 3, whose word its row takes
        self.comes([100, 2, 16, 96, 0], [3, 2, 2], [(2, "take!"), (4, "stop")], [(-1, 3)])
        self.comes([100, 2, 16, 96, 0], [3, 3], [(0, "zero"), (3, "jump")], [(0, 2)])

    def test_what_is_come_to_or_no_word_is_not_apart(self):
        self.comes([4, 96, 0], [0, 0, 200], [(0, "say"), (1, "jump")])

    def test_no_row_and_not_within_one_is_not_apart(self):
        self.comes([96, 3, 0, 2], [0], [(0, "jump")])
        # a take! that lacks its further word
        self.comes([96, 3, 0, 16], [0], [(0, "jump")])


class Told(unittest.TestCase):
    def is_told(self, words, begins):
        """Checks all that is promised of the text, and tells its rows."""
        one = told(words, begins)
        with self.subTest(words=words, begins=begins, text=one):
            self.assertIs(type(one), str)
            self.assertEqual(written(one), words)
            rows = one.split("\n") if one else []
            for row in rows:
                self.assertEqual(row, " ".join(row.split()))
            self.rows_are_rows(words, begins, rows)
            self.names_are_names(words, begins, rows)
        return rows

    def rows_are_rows(self, words, begins, rows):
        ops = dict(come_to(words, begins))
        # all rows write words, so each is listed once, in turn
        self.assertEqual([row for row, place, part in listed("\n".join(rows))], list(range(len(rows))))
        for row, place, part in listed("\n".join(rows)):
            shown = rows[row].split(" ")
            op = shown[1] if shown[0].endswith(":") else shown[0]
            self.assertEqual(op, ops.pop(place, "word"))
            if op != "word":
                self.assertEqual(len(part), row_lies(words, place)[1])
        self.assertEqual(ops, {})

    def names_are_names(self, words, begins, rows):
        parts = {place: (rows[row], len(part)) for row, place, part in listed("\n".join(rows))}
        worths = dict(names_told("\n".join(rows)))
        starts = dict(come_to(words, begins))
        for place in starts:
            goal = goal_at(words, place)
            if goal is not None:
                self.goal_is_named(parts[place][0].split(" ")[-1], goal, len(words), worths)
        for begin in begins:
            if begin < len(words):
                home = max(place for place in parts if place <= begin)
                self.assertIn(home, worths.values())
                # a name and a number only where no row of the text can begin
                self.assertTrue(home == begin or home in starts and begin < home + parts[home][1])

    def goal_is_named(self, shown, goal, end, worths):
        if 0 <= goal < end:
            self.assertRegex(shown, r"^[a-z]{1,8}([+-][0-9]+)?$")
            name, number = re.match(r"([a-z]+)(.*)", shown).groups()
            self.assertEqual(worths[name] + int(number or "0"), goal)
        else:
            self.assertEqual(shown, str(goal))

    def test_no_words(self):
        self.assertEqual(told([], []), "")
        self.assertEqual(told([], [0, 9]), "")

    def test_every_op(self):
        for first, (op, size) in ROWS.items():
            for further in (0, 1, 3, 7, 8, 200, 255):
                words = [first] + [further] * (size - 1) + [0, 1]
                self.is_told(words, [0])

    def test_rows_as_they_look(self):
        words = [17, 5, 149, 5, 38, 82, 200, 87, 9, 128, 4, 5, 0]
        rows = self.is_told(words, [0])
        self.assertRegex(rows[0], r"^[a-z]+: take! r1 5$")
        self.assertEqual(rows[1:], ["take r0 5", "say r1", "move r1 r2", "load r2 200", "store r3 9", "copy 4 5", "stop"])

    def test_the_long_take_of_a_small_number(self):
        for number in (0, 7, 8, 255):
            self.is_told([16, number, 0], [0])

    def test_words_that_are_not_come_to(self):
        for words in ([0], [0, 4, 96, 0], list(range(256)), list(range(255, -1, -1)), [96] * 256, [16, 16, 16]):
            self.assertEqual({row.split(" ")[0] for row in self.is_told(words, [])}, {"word"})

    def test_words_of_every_sort(self):
        for word in range(256):
            self.is_told([word], [0])
            self.is_told([word, 0], [0])
            self.is_told([word, word, word, word], [0, 1])

    def test_256_words(self):
        for words in ([4] * 256, [96, 255] * 128, list(range(256)), [128, 250, 251] * 85 + [0], [0] * 256):
            self.is_told(words, [0])
            self.is_told(words, [255])
            self.is_told(words, list(range(0, 256, 16)))
        self.is_told([4, 97] * 128, [0])

    def test_more_than_one_name_of_two_letters(self):
        # all 128 rows have a name, at and is cannot be among them
        words = []
        for place in range(0, 256, 2):
            words += [97, (place + 2) % 256]
        self.assertTrue(all(row.split(" ")[0].endswith(":") for row in self.is_told(words, [0])))

    def test_goals_where_a_word_lies(self):
        rows = self.is_told([96, 4, 7, 7, 0], [0])
        self.assertRegex(rows[0], r"^[a-z]+: jump [a-z]+$")
        self.assertEqual(rows[1], "word 7 7")
        self.assertRegex(rows[2], r"^[a-z]+: stop$")

    def test_goals_where_no_row_lies_but_words(self):
        rows = self.is_told([96, 4, 200, 201, 202, 203], [0])
        self.assertEqual(rows[1], "word 200 201")
        self.assertRegex(rows[2], r"^[a-z]+: word 202 203$")

    def test_goals_in_the_middle(self):
        rows = self.is_told([128, 1, 0, 96, 2], [0])
        self.assertRegex(rows[1], r"^jump [a-z]+\+2$")
        self.is_told([96, 1], [0])
        self.is_told([99, 255, 0], [0])

    def test_goals_where_no_word_lies(self):
        self.assertEqual(self.is_told([4, 96, 200], [0])[1], "jump 200")
        self.assertEqual(self.is_told([4, 96, 3], [0])[1], "jump 3")
        self.assertEqual(self.is_told([4, 99, 252], [0])[1], "skip -1")
        self.assertEqual(self.is_told([4, 99, 128], [0])[1], "skip -125")
        self.assertEqual(self.is_told([0] * 254 + [99, 127], [254])[-1].split(" ")[-1], "383")

    def test_begins_have_names(self):
        self.assertEqual(names_told(told([4, 0, 5, 0], [0, 2]))[0][1], 0)
        self.assertEqual(sorted(worth for name, worth in names_told(told([4, 0, 5, 0], [0, 2]))), [0, 2])
        # in the middle of a word row, of a row, and where no word lies
        self.assertEqual(sorted(worth for name, worth in names_told(told([200] * 9, [5, 8]))), [5, 8])
        self.assertEqual(sorted(worth for name, worth in names_told(told([4, 16, 9, 0], [0, 2]))), [0, 1])
        self.assertEqual(names_told(told([4, 0], [2, 255])), [])

    def test_drawn_words(self):
        draw = random.Random(11)
        for number in range(300):
            words = drawn_words(draw)
            self.is_told(words, drawn_begins(draw, words))
        for number in range(100):
            words = [draw.randrange(256) for each in range(draw.randrange(257))]
            self.is_told(words, drawn_begins(draw, words))


class Drawn(unittest.TestCase):
    def test_come_to_and_middles_by_the_words_of_the_document(self):
        draw = random.Random(10)
        apart = 0
        for number in range(600):
            words = drawn_words(draw)
            begins = drawn_begins(draw, words)
            rows, between = slow(words, begins)
            self.assertEqual(come_to(words, begins), rows)
            self.assertEqual(middles(words, begins), between)
            self.assertTrue(all(one < other for one, other in zip(between, between[1:])), between)
            self.assertEqual(middles(words, begins * 2 if len(begins) < 9 else begins), between)
            apart += len(between) > 0
        # the draw is of use only if some lead into the middle and some don't
        self.assertTrue(60 < apart < 540, apart)


class Refused(unittest.TestCase):
    def number_refused(self, kind, words, begins):
        """The number by which all of them refuse what is handed in."""
        numbers = set()
        for teller in TELLERS:
            with self.subTest(teller=teller.__name__), self.assertRaises(kind) as caught:
                teller(words, begins)
            numbers.add(caught.exception.number)
        self.assertEqual(len(numbers), 1)
        return numbers.pop()

    def words_refused(self, words, begins):
        return self.number_refused(BadWords, words, begins)

    def begins_refused(self, words, begins):
        return self.number_refused(BadBegins, words, begins)

    def test_words(self):
        self.assertEqual(self.words_refused([256], []), 0)
        self.assertEqual(self.words_refused([0, 255, -1], [0]), 2)
        self.assertEqual(self.words_refused([0] * 257, []), 256)
        self.assertEqual(self.words_refused([0] * 257 + [300], []), 256)
        self.assertEqual(self.words_refused([0, True], []), 1)

    def test_begins(self):
        self.assertEqual(self.begins_refused([], [-1]), 0)
        self.assertEqual(self.begins_refused([0], [0, 255, 256]), 2)
        self.assertEqual(self.begins_refused([0], [0, -1, 256]), 1)
        self.assertEqual(self.begins_refused([0], [0, False]), 1)
        self.assertEqual(self.begins_refused([0], [0] * 15 + [256]), 15)

    def test_too_many_begins(self):
        self.assertEqual(self.begins_refused([0], [0] * 17), 16)
        self.assertEqual(self.begins_refused([0], [0] * 20), 16)
        self.assertEqual(self.begins_refused([0], [0] * 16 + [999]), 16)
        self.assertEqual(self.begins_refused([0], [0] * 3 + [999] + [0] * 16), 3)

    def test_what_is_taken(self):
        for teller in TELLERS:
            teller([0, 255], [0, 255])
            teller([255] * 256, [255] * 16)
            teller([], [])

    def test_words_are_refused_first(self):
        self.assertEqual(self.words_refused([0, 256], [256]), 1)
        self.assertEqual(self.words_refused([0] * 257, [0] * 17), 256)


if __name__ == "__main__":
    unittest.main()

"""[6]: macros, what they are handed, and names of a call's own."""

import unittest

from rowscribe.writing import listed, names_told, written
from tests.helper import refused, text


class Macros(unittest.TestCase):
    def test_a_macro_writes_nothing_itself(self):
        self.assertEqual(written(text("macro m", "word 1", "end")), [])
        self.assertEqual(written(text("macro m", "end", "m")), [])

    def test_none_to_four_params(self):
        self.assertEqual(written(text("macro m", "word 1", "back", "end", "m", "m")), [1, 1, 1, 1])
        self.assertEqual(written(text("macro m a", "word a", "end", "m 5", "m 6")), [5, 6])
        self.assertEqual(written(text("macro m a b", "word b a", "end", "m 5 6")), [6, 5])
        self.assertEqual(written(text("macro m a b c", "word c b a", "end", "m 5 6 7")), [7, 6, 5])
        self.assertEqual(written(text("macro m a b c d", "word d c b a", "end", "m 5 6 7 8")), [8, 7, 6, 5])

    def test_a_param_may_have_the_macros_name(self):
        self.assertEqual(written(text("macro m m", "word m", "end", "m 5")), [5])
        self.assertEqual(written(text("macro m a m", "word m a", "end", "m 5 6")), [6, 5])

    def test_a_box_handed(self):
        rows = text("macro m p q", "move p q", "add q p", "take p 9", "say q", "end", "m r1 r3")
        self.assertEqual(written(rows), [39, 61, 17, 9, 7])
        self.assertEqual(written(text("macro m p", "same p r2 9", "end", "m r3")), [126, 9])

    def test_a_sum_handed(self):
        rows = text("macro m p", "word p -p 5-p p+p", "end", "m 9-2+1")
        self.assertEqual(written(rows), [8, 248, 253, 16])
        self.assertEqual(written(text("macro m p", "word 100-p-p", "end", "m -3+x", "is x 7")), [92])

    def test_a_name_handed(self):
        self.assertEqual(written(text("macro m p", "jump p", "end", "m x", "x: m x")), [96, 2, 96, 2])

    def test_here_is_the_place_of_the_row_where_it_comes_to_stand(self):
        rows = text("macro m p", "stop", "word p", "word 9-p", "end", "stop", "m here+1")
        self.assertEqual(written(rows), [0, 0, 3, 5])

    def test_here_of_a_macros_row(self):
        self.assertEqual(written(text("macro m", "jump here", "jump here", "end", "stop", "m")), [0, 96, 1, 96, 3])

    def test_a_param_hides_a_name(self):
        self.assertEqual(written(text("macro m p", "jump p", "end", "stop", "p: m 9")), [0, 96, 9])

    def test_a_param_does_not_stand_where_a_row_gives_a_name(self):
        rows = text("macro m p q", "p: word p", "is q 50+q", "end", "stop", "m 9 1", "word p q")
        self.assertEqual(written(rows), [0, 9, 1, 51])
        self.assertEqual(names_told(rows), [("p", 1), ("q", 51)])

    def test_a_param_is_no_op(self):
        # behind the head, p in the place of an op is the macro p
        rows = text("macro p", "back", "end", "macro m p", "p", "word p", "end", "m 9")
        self.assertEqual(written(rows), [1, 9])

    def test_names_of_macros_and_of_places_are_apart(self):
        self.assertEqual(written(text("macro m", "jump m", "end", "stop", "m: m")), [0, 96, 1])

    def test_the_calling_rows_own_name_is_ahead_of_its_rows(self):
        rows = text("macro m", "stop", "x: stop", "end", "back", "y: m", "z:")
        self.assertEqual(names_told(rows), [("x", 2), ("y", 1), ("z", 3)])

    def test_plain_names_in_a_macro(self):
        rows = text("macro m", "x: jump x", "end", "jump x", "m")
        self.assertEqual(written(rows), [96, 2, 96, 2])
        self.assertEqual(refused("macro m", "x: stop", "end", "m", "m"), (4, "name"))

    def test_rows_of_a_macro_with_at_room_and_is(self):
        rows = text("macro m p", "is @n p+1", "at @n", "room p", "word 9", "end", "m 2", "m 7")
        self.assertEqual(written(rows), [0, 0, 0, 0, 0, 9, 0, 0] + [0] * 7 + [9])

    def test_rows_without_anything(self):
        self.assertEqual(written(text("macro m", "", "; none", "stop ; stop", "end ; of it", "m ; m")), [0])

    def test_numbers_of_listed_rows(self):
        rows = text("macro m p", "take p 1", "say p", "end", "stop", "m r0", "m r1")
        self.assertEqual(listed(rows), [(4, 0, (0,)), (5, 1, (145,)), (5, 2, (4,)), (6, 3, (153,)), (6, 4, (5,))])


class OwnNames(unittest.TestCase):
    def test_each_call_has_its_own(self):
        rows = text("macro m", "@x: jump @x", "end", "m", "m", "stop", "m")
        self.assertEqual(written(rows), [96, 0, 96, 2, 0, 96, 5])
        self.assertEqual(names_told(rows), [])

    def test_how_they_look(self):
        for name in ("@a", "@abcdefg", "@stop", "@here", "@end"):
            with self.subTest(name=name):
                self.assertEqual(written(text("macro m", f"jump {name}", f"{name}: stop", "end", "m")), [96, 2, 0])
        for name in ("@", "@abcdefgh", "@a1", "@A", "@@a", "a@", "@r0", "?a", "1a", "Aa"):
            with self.subTest(name=name):
                self.assertEqual(refused("macro m", f"jump {name}", "end", "m"), (3, "form"))
                self.assertEqual(refused("macro m", f"{name}: stop", "end", "m"), (3, "form"))

    def test_they_are_apart_from_plain_names(self):
        rows = text("macro m", "@x: jump x", "jump @x", "end", "stop", "x: stop", "m")
        self.assertEqual(written(rows), [0, 0, 96, 1, 96, 2])

    def test_is_rows_give_them_too(self):
        self.assertEqual(written(text("macro m p", "is @x p+1", "word @x", "end", "m 4", "m 5")), [5, 6])

    def test_handed_to_a_macro_within(self):
        # the inner call's @x is not the one that is handed
        rows = text("macro in p", "@x: word p @x", "end", "macro out", "@x: stop", "in @x", "in @x+1", "end",
                    "back", "out", "out")
        self.assertEqual(written(rows), [1, 0, 1, 2, 2, 4, 0, 6, 7, 7, 9])

    def test_another_calls_own_name_is_unknown(self):
        self.assertEqual(refused("macro m", "@x: stop", "end", "macro n", "jump @x", "end", "m", "n"), (7, "unknown"))
        self.assertEqual(
            refused("macro in", "jump @x", "end", "macro out", "@x: stop", "in", "end", "out"), (7, "unknown"))

    def test_they_stand_nowhere_else(self):
        head = ("macro m p", "word p", "end")
        self.assertEqual(refused(*head, "@x: stop"), (3, "form"))
        self.assertEqual(refused(*head, "word @x"), (3, "form"))
        self.assertEqual(refused(*head, "is @x 5"), (3, "form"))
        self.assertEqual(refused(*head, "m @x"), (3, "form"))
        self.assertEqual(refused("macro m", "say @x", "end", "m"), (3, "form"))
        self.assertEqual(refused("macro m", "@x", "end", "m"), (3, "form"))
        self.assertEqual(refused("macro m @x", "end"), (0, "macro"))
        self.assertEqual(refused("macro @m", "end"), (0, "macro"))


class Within(unittest.TestCase):
    def test_macros_call_those_begun_ahead(self):
        rows = text("macro one p", "say p", "end", "macro two p n", "one p", "word n", "one p", "end", "two r2 9")
        self.assertEqual(written(rows), [6, 9, 6])
        self.assertEqual(listed(rows), [(8, 0, (6,)), (8, 1, (9,)), (8, 2, (6,))])

    def test_sums_handed_on(self):
        rows = text("macro in p", "word 50-p", "end", "macro out p", "in p", "in p+1", "in 9-p", "in -p", "end",
                    "out 1+2")
        self.assertEqual(written(rows), [47, 46, 44, 53])

    def test_here_handed_on(self):
        rows = text("macro in p", "stop", "word p", "end", "macro out p", "stop", "in p", "in here", "end", "out here")
        self.assertEqual(written(rows), [0, 0, 2, 0, 4])

    def test_a_box_handed_on_with_anything_is_none(self):
        head = ("macro in p", "word p", "end", "macro out p", "in p+1", "end")
        self.assertEqual(refused(*head, "out r0"), (6, "form"))
        self.assertEqual(refused(*head, "out 5"), None)

    def test_the_same_param_name_in_both(self):
        rows = text("macro in q p", "word q p", "end", "macro out p q", "in p q", "in q p", "end", "out 1 2")
        self.assertEqual(written(rows), [1, 2, 2, 1])

    def test_sixty_within_one_another(self):
        rows = ["macro aa", "word 7", "end"]
        last = "aa"
        for number in range(59):
            name = "m" + "abcdefghij"[number // 10] + "abcdefghij"[number % 10]
            rows += ["macro " + name, last, "end"]
            last = name
        self.assertEqual(written(text(*rows, last)), [7])

    def test_labels_of_inner_calls(self):
        rows = text("macro in", "stop", "end", "macro out", "@x: in", "x: in", "jump @x", "end", "in", "y: out")
        self.assertEqual(written(rows), [0, 0, 0, 96, 1])
        self.assertEqual(names_told(rows), [("x", 2), ("y", 1)])


if __name__ == "__main__":
    unittest.main()

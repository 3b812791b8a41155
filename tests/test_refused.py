"""[8]: why a text is refused, and by which row."""

import unittest

from tests.helper import refused

LONG = "+".join(["1"] * 25)
# A macro with one param, a row of which stands where it is called.
ONE = ("macro one p", "word p", "end")


class Why(unittest.TestCase):
    def is_refused(self, row, why, *rows):
        with self.subTest(rows=rows[-8:]):
            self.assertEqual(refused(*rows), (row, why))

    def is_taken(self, *rows):
        with self.subTest(rows=rows[-8:]):
            self.assertEqual(refused(*rows), None)


class Form(Why):
    def test_a_row_that_is_none(self):
        self.is_refused(1, "form", "stop", "halt", "stop")
        self.is_refused(2, "form", "", "; halt", "say r4", "halt")

    def test_where_a_param_cannot_stand_so(self):
        self.is_refused(3, "form", "macro m p", "jump p", "end", "m r0")
        self.is_refused(3, "form", "macro m p", "word 1+p", "end", "m r0")
        self.is_refused(3, "form", "macro m p", "is a p", "end", "m r0")
        self.is_refused(3, "form", "macro m p", "say p", "end", "m 0")
        self.is_refused(3, "form", "macro m p", "move r0 p", "end", "m x")
        self.is_refused(3, "form", "macro m p", "move -p r0", "end", "m r0")
        self.is_refused(3, "form", "macro m p", "p 5", "end", "m word")
        self.is_refused(3, "form", "macro m p", "p", "end", "m 5")

    def test_what_is_handed_is_none(self):
        for handed in ("r4", "1+r0", "-r0", "stop", "01", "a+", "?", "@a", "abcdefghi"):
            self.is_refused(3, "form", *ONE, f"one {handed}")

    def test_a_call_of_a_macro_begun_later(self):
        self.is_refused(0, "form", "m", "macro m", "end")
        self.is_refused(3, "form", "macro m", "n", "end", "m", "macro n", "end")

    def test_a_macro_that_there_is_not(self):
        self.is_refused(4, "form", "macro m", "", "n", "end", "m")

    def test_rows_of_a_macro_are_looked_at_where_it_is_called_alone(self):
        self.is_taken("macro m", "halt", "say r9", "x: macro y", "x: end", "end x", "word " + LONG, "jump x", "m", "end")
        self.is_refused(3, "form", "macro m", "halt", "end", "m")
        self.is_refused(3, "form", "macro m", "x: macro y", "end", "m")
        self.is_refused(3, "form", "macro m", "x: end", "end", "m")
        self.is_refused(3, "form", "macro m", "end x", "end", "m")


class Macro(Why):
    def test_a_head_that_is_none(self):
        for head in (
            "macro", "macro 5", "macro stop", "macro here", "macro take!", "macro r0", "macro abcdefghi", "macro A",
            "macro @m", "macro m 5", "macro m r0", "macro m p p", "macro m p q p", "macro m end", "macro m @p",
            "macro m a b c d e", "macro m a b c d d", "macro m:", "macro m p+q", "macro m abcdefghi",
        ):
            self.is_refused(1, "macro", "stop", head, "end")
        self.is_taken("macro m a b c d", "end")
        self.is_taken("macro m abcdefgh", "end")

    def test_a_name_that_a_macro_has(self):
        self.is_refused(2, "macro", "macro m", "end", "macro m", "end")
        self.is_refused(4, "macro", "macro m p", "end", "macro n", "end", "macro m", "end")
        self.is_taken("macro m p", "end", "macro p", "end")

    def test_sixty_macros_and_one_more(self):
        rows = []
        for number in range(60):
            rows += ["macro m" + "abcdef"[number // 10] + "abcdefghij"[number % 10], "end"]
        self.is_taken(*rows)
        self.is_refused(120, "macro", *rows, "macro x", "end")

    def test_a_macro_within_a_macro(self):
        self.is_refused(1, "macro", "macro m", "macro n", "end", "end")
        self.is_refused(2, "macro", "macro m", "halt", "macro", "end")

    def test_an_end_of_none(self):
        self.is_refused(0, "macro", "end")
        self.is_refused(2, "macro", "macro m", "end", "end")

    def test_a_macro_without_an_end(self):
        self.is_refused(1, "macro", "stop", "macro m", "stop", "stop")
        self.is_refused(0, "macro", "macro m")

    def test_a_macro_without_an_end_is_behind_all_other_rows(self):
        self.is_refused(2, "macro", "macro m", "stop", "macro n")
        self.is_refused(0, "form", "halt", "macro m")
        self.is_refused(3, "form", "macro m", "end", "stop", "n", "macro n")

    def test_a_call_of_other_counts(self):
        self.is_refused(3, "macro", *ONE, "one")
        self.is_refused(3, "macro", *ONE, "one 1 2")
        self.is_refused(2, "macro", "macro m", "end", "m r0")
        self.is_refused(6, "macro", *ONE, "macro m", "one", "end", "m")

    def test_a_macros_row_that_calls_one_not_begun_ahead(self):
        self.is_refused(3, "macro", "macro m", "m", "end", "m")
        self.is_refused(5, "macro", "macro m", "n", "end", "macro n", "end", "m")
        self.is_refused(8, "macro", "macro m", "n", "end", "macro n", "end", "macro o", "m", "end", "o")
        self.is_taken("macro m", "m", "end")


class Long(Why):
    def test_400_rows_and_one_more(self):
        self.is_taken(*["room 0"] * 400)
        self.is_refused(400, "long", *["room 0"] * 401)

    def test_rows_without_anything_do_not_count(self):
        self.is_taken(*["room 0", "", "  ", "; none"] * 400)
        self.is_refused(1600, "long", *["room 0", "", "  ", "; none"] * 400, "room 0")

    def test_a_row_of_a_name_alone_counts(self):
        self.is_refused(400, "long", *["room 0"] * 400, "x:")
        self.is_refused(400, "long", "x:", *["room 0"] * 400)

    def test_calling_rows_and_rows_of_macros_count(self):
        macro = ["macro m", "room 0", "", "room 0", "room 0", "end"]
        self.is_taken(*macro, *["m"] * 100)
        self.is_refused(106, "long", *macro, *["m"] * 100, "room 0")
        self.is_refused(106, "long", *macro, "room 0", *["m"] * 100)
        self.is_refused(402, "long", "macro e", "end", *["e"] * 401)

    def test_heads_ends_and_rows_that_are_not_called_do_not_count(self):
        self.is_taken("macro m", *["room 0"] * 401, "end", *["room 0"] * 400)

    def test_one_within_another_has_the_calling_rows_number(self):
        inner = ["macro in", *["room 0"] * 199, "end"]
        outer = ["macro out", "in", "in", "end"]
        self.is_refused(205, "long", *inner, *outer, "out")
        inner = ["macro in", *["room 0"] * 198, "end"]
        self.is_taken(*inner, *outer, "room 0", "out")

    def test_a_sum_of_25_parts(self):
        self.is_refused(1, "long", "stop", "word " + LONG)
        self.is_refused(1, "long", "stop", "word 1 2 -" + LONG)
        self.is_refused(1, "long", "stop", "take r0 " + LONG)
        self.is_refused(1, "long", "stop", "at " + LONG)

    def test_a_sum_as_it_is_put_in(self):
        eight = "+".join(["1"] * 8)
        self.is_taken("macro m p", "word p+p+p", "end", "m " + eight)
        self.is_refused(3, "long", "macro m p", "word p+p+p+1", "end", "m " + eight)
        self.is_refused(3, "long", "macro m p", "word p-p+p", "end", "m " + eight + "+1")
        self.is_refused(3, "long", *ONE, "one " + LONG)
        self.is_refused(6, "long", *ONE, "macro m p", "one p+p+p-1", "end", "m " + eight)


class Read(Why):
    """Form, macro and long: whichever comes first as rows are read."""

    def test_of_two_rows_the_first(self):
        self.is_refused(0, "form", "halt", "end", "word " + LONG)
        self.is_refused(0, "macro", "end", "halt", "word " + LONG)
        self.is_refused(0, "long", "word " + LONG, "halt", "end")
        self.is_refused(3, "form", "macro m", "halt", "end", "m", "end")
        self.is_refused(3, "macro", "macro m", "halt", "end", "end", "m")

    def test_of_rows_put_in_the_first(self):
        self.is_refused(4, "long", "macro m", "word " + LONG, "halt", "end", "m")
        self.is_refused(4, "form", "macro m", "halt", "word " + LONG, "end", "m")
        self.is_refused(4, "macro", "macro m", "m", "halt", "end", "m")
        # the inner call's rows come ahead of the outer one's next
        self.is_refused(7, "long", "macro in", "word " + LONG, "end", "macro out", "in", "halt", "end", "out")

    def test_in_one_row_a_401st_is_first(self):
        rows = ["room 0"] * 400
        self.is_refused(400, "long", *rows, "9: halt")
        self.is_refused(403, "long", *ONE, *rows, "one")

    def test_in_one_row_then_its_own_name(self):
        self.is_refused(3, "form", *ONE, "9: one")
        self.is_refused(0, "form", "9: word " + LONG)

    def test_in_one_row_then_the_call(self):
        self.is_refused(3, "macro", *ONE, "one ? 5")
        self.is_refused(3, "macro", *ONE, "one " + LONG + " 5")
        self.is_refused(3, "macro", "macro m p", "m ?", "end", "m 5")
        self.is_refused(3, "macro", "macro m p", "m " + LONG, "end", "m 5")

    def test_in_one_row_then_boxes_and_sums_in_turn(self):
        self.is_refused(0, "form", "take r9 " + LONG)
        self.is_refused(0, "form", "is 5 " + LONG)
        self.is_refused(0, "form", "copy ? " + LONG)
        self.is_refused(0, "long", "copy " + LONG + " ?")
        self.is_refused(0, "long", "word 1 " + LONG + " 2 ?")
        two = ("macro two p q", "end")
        self.is_refused(2, "form", *two, "two ? " + LONG)
        self.is_refused(2, "long", *two, "two " + LONG + " ?")

    def test_a_calls_own_wrongs_are_ahead_of_its_rows(self):
        self.is_refused(3, "long", "macro m p", "halt", "end", "m " + LONG)
        self.is_refused(3, "form", "macro m p", "word " + LONG, "end", "m ?")


class Name(Why):
    def test_a_name_given_once_more(self):
        self.is_refused(2, "name", "x: stop", "y:", "x: stop")
        self.is_refused(1, "name", "x:", "is x 5")
        self.is_refused(1, "name", "is x 5", "x:")
        self.is_refused(1, "name", "is x 5", "is x 5")
        self.is_refused(0, "name", "x: is x 5")

    def test_in_macros(self):
        self.is_refused(3, "name", "macro m", "x:", "end", "x: m")
        self.is_refused(4, "name", "macro m", "@x:", "is @x 5", "end", "m")
        self.is_refused(4, "name", "macro m", "x:", "end", "m", "m")
        self.is_refused(4, "name", "macro m", "x:", "end", "m", "x:")
        self.is_refused(7, "name", "macro in", "x:", "end", "macro out", "in", "in", "end", "out")

    def test_names_of_macros_are_none(self):
        self.is_taken("macro m m", "end", "m: m 5", "is p m")


class Unknown(Why):
    def test_a_name_that_no_row_gives(self):
        self.is_refused(1, "unknown", "x: stop", "jump y", "jump z")
        self.is_refused(0, "unknown", "word 1 2+x-3")
        self.is_refused(0, "unknown", "is x y")
        self.is_refused(2, "unknown", "macro m", "end", "jump m")
        self.is_refused(3, "unknown", *ONE, "one x")
        self.is_refused(3, "unknown", "macro m p", "jump q", "end", "m 5")

    def test_in_macros(self):
        self.is_refused(4, "unknown", "macro m", "jump @x", "end", "stop", "m")
        self.is_refused(6, "unknown", *ONE, "macro m", "one x", "end", "m")

    def test_what_is_handed_counts_where_it_comes_to_stand(self):
        self.is_taken("macro m p", "stop", "end", "m x")
        self.is_refused(3, "unknown", "macro m p", "word p", "end", "m 5-x")

    def test_a_macro_that_is_not_called_gives_nothing(self):
        self.is_refused(3, "unknown", "macro m", "x:", "end", "jump x")

    def test_a_name_that_cannot_stand_so(self):
        self.is_refused(1, "unknown", "x:", "at x")
        self.is_refused(0, "unknown", "room x", "is x 5")
        self.is_refused(4, "unknown", "macro m p", "room p", "end", "x:", "m x")
        self.is_refused(5, "unknown", "macro m p", "is @n p", "room @n", "end", "x:", "m x")
        self.is_taken("macro m p", "is @n p", "room @n", "end", "is x 5", "m x")
        # ahead is by rows as they are put in
        self.is_taken("macro m", "is x 5", "end", "m", "room x")
        self.is_refused(3, "unknown", "macro m", "is x 5", "end", "room x", "m")


class Ring(Why):
    def test_a_name_that_leads_to_itself(self):
        self.is_refused(0, "ring", "is x x")
        self.is_refused(1, "ring", "", "is x 5-x")
        self.is_refused(0, "ring", "is x x-x")
        self.is_refused(1, "ring", "is z 5", "is x y", "is y x")
        self.is_refused(0, "ring", "is x y+1", "is y 2-z", "is z 3+x")

    def test_a_name_that_leads_to_such_a_one(self):
        self.is_refused(0, "ring", "is a x", "is x x")
        self.is_refused(1, "ring", "is c 1", "is a b+c", "is b y", "is x y", "is y x")
        self.is_refused(1, "ring", "is a 1", "is x x", "is b x")

    def test_what_is_no_ring(self):
        self.is_taken("is a b+b", "is b c", "is c 5")
        self.is_taken("a: is b a", "is c b+a")
        names = ["n" + chr(97 + number // 26) + chr(97 + number % 26) for number in range(400)]
        rows = [f"is {name} {other}" for name, other in zip(names, names[1:])]
        self.is_taken(*rows, f"is {names[-1]} 5")
        self.is_refused(0, "ring", *rows, f"is {names[-1]} {names[-1]}")

    def test_in_macros(self):
        self.is_refused(4, "ring", "macro m p", "is @a @b+p", "is @b @a", "end", "m 5")
        self.is_refused(3, "ring", "macro m p", "is x p", "end", "m x")


class Room(Why):
    def test_at_behind_its_own_place(self):
        self.is_refused(1, "room", "word 1 2 3", "at 2")
        self.is_taken("word 1 2 3", "at 3")
        self.is_refused(0, "room", "at -1")
        self.is_refused(2, "room", "at 9", "", "at 8")

    def test_at_beyond_256(self):
        self.is_taken("at 256")
        self.is_refused(0, "room", "at 257")

    def test_room_below_nought(self):
        self.is_refused(1, "room", "stop", "room -1")
        self.is_refused(1, "room", "stop", "room 0-1")
        self.is_refused(1, "room", "room 9", "room -9")

    def test_a_row_that_ends_beyond_256(self):
        self.is_taken("at 255", "stop")
        self.is_refused(1, "room", "at 256", "stop")
        self.is_refused(1, "room", "at 255", "jump 5")
        self.is_taken("at 254", "jump 5", "x:", "is n 5", "room 0", "at 256")
        self.is_refused(2, "room", "at 250", "word 1 2 3 4", "copy 1 2")
        self.is_refused(0, "room", "room 257")
        self.is_refused(1, "room", "room 250", "room 7")
        self.is_refused(1, "room", "at 255", "take r0 8")
        self.is_taken("at 255", "take r0 7")

    def test_by_the_last_places(self):
        # by the first places the at fits, but not once the take is long
        self.is_refused(2, "room", "take r0 x", "room 7", "at 8", "x:")
        # by the first places only the last row has no room
        self.is_refused(1, "room", "take r0 9", "at 1", "room 300")

    def test_in_macros(self):
        self.is_refused(4, "room", "macro m", "word 1 2", "at 1", "end", "m")


class Value(Why):
    def test_a_sum_that_does_not_fit(self):
        self.is_refused(1, "value", "stop", "jump 256")
        self.is_refused(1, "value", "stop", "word 1 2 300", "jump 256")
        self.is_refused(0, "value", "jump x", "is x 300")

    def test_the_end_of_256_words_is_no_place_to_go_to(self):
        self.is_refused(0, "value", "jump x", "at 256", "x:")
        self.is_taken("jump x", "at 255", "x:")

    def test_in_macros(self):
        self.is_refused(4, "value", *ONE, "one 255", "one 256")
        self.is_refused(6, "value", *ONE, "macro m p", "one p-300", "end", "m 5")

    def test_what_is_handed_may_be_any(self):
        self.is_taken("macro m p", "word 999-p", "end", "m 900")


class Order(Why):
    """Of two wrongs of unlike whys, the first of the list."""

    WRONGS = (
        ("form", "halt"),
        ("name", "is twice 5"),
        ("unknown", "word never"),
        ("ring", "is ring ring"),
        ("room", "room -1"),
        ("value", "jump 256"),
    )

    def test_each_is_due_alone(self):
        for why, row in self.WRONGS:
            self.is_refused(2, why, "is twice 5", "stop", row)

    def test_of_two_the_first_of_the_list(self):
        for number, (why, row) in enumerate(self.WRONGS):
            for later, other in self.WRONGS[number + 1:]:
                self.is_refused(1, why, "is twice 5", row, other)
                self.is_refused(2, why, "is twice 5", other, row)

    def test_macro_and_long_are_ahead_of_the_rest(self):
        for why, row in self.WRONGS[1:]:
            self.is_refused(2, "macro", "is twice 5", row, "end")
            self.is_refused(2, "macro", "is twice 5", row, "macro m")
            self.is_refused(2, "long", "is twice 5", row, "word " + LONG)

    def test_two_wrongs_in_one_row(self):
        self.is_refused(1, "name", "x:", "x: word y")
        self.is_refused(1, "name", "x:", "is x x")
        self.is_refused(0, "unknown", "is x x+y")
        self.is_refused(1, "unknown", "at 250", "word 1 2 3 4 5 6 7 x")
        self.is_refused(1, "room", "at 255", "jump 256")
        self.is_refused(1, "form", "x:", "x: jump ?")

    def test_of_one_why_the_first_row_as_rows_are_put_in(self):
        self.is_refused(3, "value", "macro m", "jump 256", "end", "m", "jump 257")
        self.is_refused(3, "value", "macro m", "jump 256", "end", "jump 257", "m")


if __name__ == "__main__":
    unittest.main()

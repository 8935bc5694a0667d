"""What a line that was read is refused with, and in which order: point [17]."""

import unittest

from helper import refusal_of
from rowbreadth.looks import depth_of, size_of
from rowbreadth.reader import read

NAMES = ["ra", "rb", "rc", "rd", "re", "rf", "rg", "rh", "ri", "rj", "rk", "rl", "rm", "rn"]
# Rows a of 3 cells, b of 3, c of one and d of 4.
HEAD = "row a 3\nrow b 3\nrow c 1\nrow d 4\n"


def sized(size):
    """A form of that size, with few brackets within one another, uneven or crossed nowhere."""
    if size == 1:
        return "1"
    if size == 2:
        return "( at b 1 )"
    left = (size - 1) // 2
    return f"( + {sized(left)} {sized(size - 1 - left)} )"


def deep(depth):
    form = "1"
    for _ in range(depth):
        form = f"( if 1 {form} 1 )"
    return form


# Lines with one form to be filled in, for each place of a form.
PLACES = ["let a {}", "let a 1 where {}", "put {} at 1 in a of 3", "put 1 at {} in a of 3",
          "put 1 at 1 in a of 3 where {}", "fold sum {} into c of 3", "fold sum 1 into c of 3 where {}",
          "run sum {} into a", "run sum 1 into a where {}"]


class Refused(unittest.TestCase):
    def told(self, text, name, line):
        self.assertEqual(refusal_of(text), (name, line))

    def read(self, text):
        self.assertIsNone(refusal_of(text))


class TooManyOfThem(Refused):
    def rows(self, many):
        return "".join(f"row {name} 3\n" for name in NAMES[:many])

    def defs(self, many):
        return "".join(f"def f{name} = 1\n" for name in NAMES[:many])

    def test_rows(self):
        self.assertEqual(read(self.rows(12)).names, NAMES[:12])
        self.told(self.rows(13), "TooMany", 13)
        self.told(self.rows(14), "TooMany", 13)

    def test_functions(self):
        self.assertEqual(len(read(self.defs(8)).program.functions), 8)
        self.told(self.defs(9), "TooMany", 9)

    def test_rows_and_functions_are_counted_apart(self):
        self.read(self.rows(12) + self.defs(8))
        self.told(self.rows(12) + self.defs(8) + "row n 1", "TooMany", 21)
        self.told(self.rows(12) + self.defs(8) + "def n = 1", "TooMany", 21)

    def test_steps(self):
        self.assertEqual(len(read("row a 3\n" + "let a 1\n" * 40).lines), 40)
        self.told("row a 3\n" + "let a 1\n" * 41, "TooMany", 42)

    def test_each_kind_of_step_as_the_forty_first(self):
        for line in ("let a 1", "put 1 at 1 in a of 3", "fold sum 1 into c of 3", "run sum 1 into a",
                     "till a most 3\nend"):
            self.read(HEAD + "let a 1\n" * 39 + line)
            self.told(HEAD + "let a 1\n" * 40 + line, "TooMany", 45)

    def test_tills_and_their_own_steps_are_counted(self):
        turn = "till a most 3\nlet a 1\nend\n"
        self.assertEqual(len(read("row a 3\n" + turn * 20).lines), 40)
        self.told("row a 3\n" + turn * 20 + "let a 1", "TooMany", 62)
        self.told("row a 3\n" + turn * 21, "TooMany", 62)
        self.told("row a 3\nlet a 1\n" + turn * 20, "TooMany", 61)

    def test_an_end_behind_forty_steps(self):
        self.read("row a 3\ntill a most 3\n" + "let a 1\n" * 39 + "end")
        self.read("row a 3\n" + "let a 1\n" * 39 + "till a most 3\nend")

    def test_rows_and_functions_behind_forty_steps(self):
        self.read("row a 3\n" + "let a 1\n" * 40 + "row b 3\ndef f = 1")

    def test_tills_within_one_another(self):
        self.read("row a 3\n" + "till a most 3\n" * 3 + "let a 1\n" + "end\n" * 3)
        self.told("row a 3\n" + "till a most 3\n" * 4 + "end\n" * 4, "TooMany", 5)
        self.told("row a 3\n" + "till a most 3\n" * 3 + "end\n" + "till a most 3\n" * 2, "TooMany", 7)

    def test_tills_behind_one_another_are_not_within(self):
        self.read("row a 3\n" + "till a most 3\nend\n" * 9)
        self.read("row a 3\n" + ("till a most 3\n" * 3 + "end\n" * 3) * 4)

    def test_what_is_due_at_a_word_comes_first(self):
        self.told(self.rows(12) + "row ra 3", "Twice", 13)
        self.told(self.rows(12) + "row n 401", "BadText", 13)
        self.told(self.rows(12) + "row n 3 3", "BadText", 13)
        self.told(self.defs(8) + "def fra = 1", "Twice", 9)
        self.told(self.defs(8) + "def n = zz", "NoName", 9)
        self.told("row a 3\n" + "let a 1\n" * 40 + "let a zz", "NoName", 42)
        self.told("row a 3\n" + "let a 1\n" * 40 + "till a most 0", "BadText", 42)
        self.told("row a 3\n" + "till a most 3\n" * 3 + "till a most", "BadText", 5)

    def test_within_a_till_a_row_is_a_bad_word_though_too_many(self):
        self.told(self.rows(12) + "till ra most 3\nrow n 3", "BadText", 14)


class Sizes(Refused):
    def test_the_forms_here_are_of_their_sizes(self):
        for size in (1, 2, 3, 59, 60, 61, 62):
            text = HEAD + f"let a {sized(size)}"
            if size <= 60:
                program = read(text).program
                self.assertEqual(size_of(program.steps[0].value, []), size)

    def test_sixty_and_one_more_at_each_place(self):
        for place in PLACES:
            with self.subTest(place=place):
                self.read(HEAD + place.format(sized(59)))
                self.read(HEAD + place.format(sized(60)))
                self.told(HEAD + place.format(sized(61)), "TooLong", 5)
                self.told(HEAD + place.format(sized(62)), "TooLong", 5)

    def test_each_form_by_itself(self):
        self.read(HEAD + f"let a {sized(60)} where {sized(60)}")
        self.read(HEAD + f"put {sized(60)} at {sized(60)} in a of 3 where {sized(60)}")

    def test_bodies(self):
        half = "( + 1 " * 29 + "1" + " )" * 29
        self.read(f"def f = {half}")
        self.read(f"def f = ( if 1 1 {'( + 1 ' * 28}1{' )' * 28} )")
        self.told(f"def f = ( if 1 1 {'( + 1 ' * 28}( if 1 1 1 ){' )' * 28} )", "TooLong", 1)
        self.told(f"def f = ( + 1 {half} )", "TooLong", 1)

    def test_a_body_counts_at_each_call(self):
        body = "def f = " + "( + 1 " * 28 + "1" + " )" * 28 + "\n"      # a size of 57
        self.read(HEAD + body + "let a ( f )")
        self.read(HEAD + body + "let a ( at b ( at b ( f ) ) )")
        self.told(HEAD + body + "let a ( at b ( at b ( at b ( f ) ) ) )", "TooLong", 6)
        self.told(HEAD + body + "let a ( + ( f ) ( f ) )", "TooLong", 6)
        self.read(HEAD + body + "let a ( f ) where ( f )")

    def test_what_is_handed_counts_too(self):
        body = "def f x = " + "( + x " * 27 + "x" + " )" * 27 + "\n"      # a size of 55
        self.read(HEAD + body + "let a ( f ( + 1 ( at b 1 ) ) )")
        self.told(HEAD + body + "let a ( f ( + 1 ( + 1 1 ) ) )", "TooLong", 6)

    def test_bodies_of_bodies(self):
        defs = "def f = ( + 1 1 )\ndef g = ( + ( f ) ( f ) )\ndef h = ( + ( g ) ( g ) )\n"     # 3, 9, 21
        self.read(defs + "def i = ( + ( h ) ( h ) )")                     # 45
        self.told(defs + "def i = ( + ( h ) ( h ) )\ndef j = ( + ( i ) ( h ) )", "TooLong", 5)
        self.told(defs + "def i = ( if ( h ) ( h ) ( h ) )", "TooLong", 4)

    def test_a_function_that_was_too_long_ends_the_reading(self):
        self.told(f"def f = {'( + 1 ' * 30}1{' )' * 30}\nrow", "TooLong", 1)


class Depths(Refused):
    def test_seven_and_one_more_at_each_place(self):
        for place in PLACES:
            with self.subTest(place=place):
                self.read(HEAD + place.format(deep(7)))
                self.told(HEAD + place.format(deep(8)), "TooDeep", 5)

    def test_bodies(self):
        self.read(f"def f = {deep(7)}")
        self.told(f"\ndef f = {deep(8)}", "TooDeep", 2)

    def test_a_body_counts_at_a_call(self):
        self.read(HEAD + f"def f = {deep(6)}\nlet a ( if 1 1 ( f ) )")
        self.told(HEAD + f"def f = {deep(7)}\nlet a ( if 1 1 ( f ) )", "TooDeep", 6)
        self.read(HEAD + f"def f = {deep(4)}\nlet a ( if ( f ) ( f ) ( f ) )")
        self.told(f"def f = {deep(7)}\ndef g x = ( if x ( f ) 1 )", "TooDeep", 2)

    def test_what_is_handed_counts_too(self):
        self.read(HEAD + f"def f x = x\nlet a ( f {deep(7)} )")
        self.told(HEAD + f"def f x = x\nlet a ( f {deep(8)} )", "TooDeep", 6)
        self.read(HEAD + f"def f x = ( if x 1 1 )\nlet a ( f {deep(7)} )")

    def test_what_is_read_keeps_to_both(self):
        program = read(HEAD + f"let a {deep(7)} where {sized(60)}").program
        self.assertEqual(depth_of(program.steps[0].value, []), 7)
        self.assertEqual(size_of(program.steps[0].test, []), 60)


class UnevenAndCrossed(Refused):
    def test_uneven_at_each_place(self):
        for place in PLACES:
            self.read(HEAD + place.format("( + b b )"))
            self.told(HEAD + place.format("d"), "Uneven", 5)
            self.told(HEAD + place.format("( if 1 ( at b d ) 1 )"), "Uneven", 5)

    def test_a_row_of_one_cell_is_even(self):
        for place in PLACES:
            if " c " not in place:
                self.read(HEAD + place.format("c"))

    def test_a_fold_into_more_than_one_cell(self):
        self.told(HEAD + "fold sum 1 into a of 3", "Uneven", 5)
        self.told(HEAD + "fold sum 1 into a of 1", "Uneven", 5)
        self.read(HEAD + "fold sum d into c of 4")

    def test_a_put_goes_by_its_many(self):
        self.read(HEAD + "put d at here in a of 4")
        self.told(HEAD + "put d at here in a of 3", "Uneven", 5)

    def test_crossed_at_each_place(self):
        for place in PLACES:
            target = "c" if " c " in place else "a"
            self.told(HEAD + place.format(f"( at {target} 0 )"), "Crossed", 5)
            self.told(HEAD + place.format(f"( + 1 ( shift {target} 1 0 ) )"), "Crossed", 5)
            if place.startswith(("let", "run")):
                self.read(HEAD + place.format(target))
            else:
                self.told(HEAD + place.format(target), "Crossed", 5)

    def test_a_till_is_neither(self):
        for name in ("a", "c", "d"):
            self.read(HEAD + f"till {name} most 3\nend")

    def test_a_step_within_a_till(self):
        self.told(HEAD + "till a most 3\nlet a d\nend", "Uneven", 6)
        self.told(HEAD + "till a most 3\ntill a most 3\nlet a ( at a 1 )\nend\nend", "Crossed", 7)


class WhichComesFirst(Refused):
    LONG_AND_DEEP = "( + " + sized(59) + " " + deep(8) + " )"

    def test_too_many_ahead_of_all(self):
        steps = "let a 1\n" * 40
        for line in (f"let a {sized(61)}", f"let a {deep(8)}", "let a d", "let a ( at a 1 )"):
            self.told(HEAD + steps + line, "TooMany", 45)
        defs = "".join(f"def f{name} = 1\n" for name in NAMES[:8])
        self.told(defs + f"def n = {'( + 1 ' * 30}1{' )' * 30}", "TooMany", 9)
        self.told(defs + f"def n = {deep(8)}", "TooMany", 9)

    def test_too_long_ahead_of_too_deep(self):
        for place in PLACES:
            self.told(HEAD + place.format(self.LONG_AND_DEEP), "TooLong", 5)
        self.told(HEAD + f"let a {deep(8)} where {sized(61)}", "TooLong", 5)
        self.told(HEAD + f"put {deep(8)} at {deep(8)} in a of 3 where {sized(61)}", "TooLong", 5)
        self.told(f"def f = ( if {'( + 1 ' * 29}1{' )' * 29} 1 {deep(7)} )", "TooLong", 1)

    def test_too_long_and_too_deep_ahead_of_uneven_and_crossed(self):
        self.told(HEAD + f"let a d where {sized(61)}", "TooLong", 5)
        self.told(HEAD + f"let a ( at a 1 ) where {sized(61)}", "TooLong", 5)
        self.told(HEAD + f"let a d where {deep(8)}", "TooDeep", 5)
        self.told(HEAD + f"let a ( at a 1 ) where {deep(8)}", "TooDeep", 5)
        self.told(HEAD + f"fold sum {deep(8)} into a of 3", "TooDeep", 5)

    def test_uneven_ahead_of_crossed(self):
        self.told(HEAD + "let a ( at a d )", "Uneven", 5)
        self.told(HEAD + "put ( shift a 1 1 ) at d in a of 3", "Uneven", 5)
        self.told(HEAD + "fold sum a into a of 3", "Uneven", 5)

    def test_words_ahead_of_all_these(self):
        self.told(HEAD + f"let a {sized(61)} zz", "BadText", 5)
        self.told(HEAD + f"let a {deep(8)} where zz", "NoName", 5)
        self.told(HEAD + "let a d where", "BadText", 5)
        self.told(HEAD + "let a ( at a 1 ) where -0", "BadText", 5)


if __name__ == "__main__":
    unittest.main()

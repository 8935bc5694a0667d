"""Which refusal is due at which word, and which line it tells: points [14] and [16]."""

import unittest

from helper import refusal_of
from rowbreadth import errors
from rowbreadth.reader import read

HALF = 2 ** 63
SIGNS = "+ - * / rest least most < = & | ^".split()
FOLDS = "sum product least most both either odd chain capped".split()
KEPT = ("row def let put fold run till end at in of into where most here shift if rest least sum product both either odd"
        " chain capped").split()
NUMBERS = ["0", "1", "-1", "400", "401", "-400", "-401", "1000", "1001", str(HALF - 1), str(-HALF)]
NO_NUMBERS = ["-0", "00", "007", "-07", "+1", "1.", "1a", "--1", str(HALF), str(-HALF - 1), "9" * 5000]
JUNK = ["A", "aB", "a1", "a_b", "abcdefghijklm", "==", "<=", ".", "#", "!", "~", "{", "row.", "a-", "Row"]
# Rows a of 3 cells, b of 3 and c of one; functions none of no parameter and two of two.
HEAD = "row a 3\nrow b 3\nrow c 1\ndef none = 4\ndef two x y = ( - x y )\n"
ROWS, HEADS, OWN, FREE = ["a", "b", "c"], ["none", "two"], ["p", "q"], ["x", "zz", "abcdefghijkl", "rows"]
NAMES = ROWS + HEADS + OWN + FREE
WORDS = KEPT + NUMBERS + NO_NUMBERS + JUNK + ["(", ")"] + SIGNS + NAMES

# For each line its beginnings, and what is wanted behind each of them.
FORM_ENDS = {"let a": "where", "let a 1 where": "end", "put": "at", "put 1 at": "in", "put 1 at 1 in a of 3 where": "end",
             "fold sum": "into", "fold sum 1 into c of 3 where": "end", "run sum": "into",
             "run sum 1 into a where": "end"}
WANTED = {
    "def n p": "parameter", "def n p q r": "parameter", "def n p q r s": "parameter", "def n p q r s t": "parameter",
    "def n p q r s t u =": "own form",
    "": "line", "row": "new", "row n": ("number", 1, 400), "row n 3": "end",
    "def": "new", "def n": "parameter", "def n p q": "parameter", "def n p q r s t u": ("word", "="),
    "def n p q =": "own form", "def n p q = 1": "end", "def n p q = ( + 1 1 )": "end",
    "def n p q = (": "own head", "def n p q = ( +": "own form", "def n p q = ( + 1": "own form",
    "def n p q = ( + 1 1": ("word", ")"), "def n p q = ( if": "own form", "def n p q = ( if p": "own form",
    "def n p q = ( if p q": "own form", "def n p q = ( if p q p": ("word", ")"), "def n p q = ( none": ("word", ")"),
    "def n p q = ( two": "own form", "def n p q = ( two 1": "own form", "def n p q = ( two 1 1": ("word", ")"),
    "def n p q = ( + ( + p q )": "own form",
    "let": "row", "put 1": ("word", "at"), "put 1 at 1": ("word", "in"), "put 1 at 1 in": "row",
    "put 1 at 1 in a": ("word", "of"), "put 1 at 1 in a of": ("number", 1, 400), "put 1 at 1 in a of 3": "where",
    "fold": "fold", "fold sum 1": ("word", "into"), "fold sum 1 into": "row", "fold sum 1 into c": ("word", "of"),
    "fold sum 1 into c of": ("number", 1, 400), "fold sum 1 into c of 3": "where",
    "run": "fold", "run sum 1": ("word", "into"), "run sum 1 into": "row", "run sum 1 into a": "where",
    "till": "row", "till a": ("word", "most"), "till a most": ("number", 1, 1000), "till a most 3": "end",
}
for before, behind in FORM_ENDS.items():
    after = behind if behind in ("where", "end") else ("word", behind)
    WANTED.update({
        before: "form", f"{before} 1": after, f"{before} here": after, f"{before} (": "head", f"{before} ( +": "form",
        f"{before} ( + 1": "form", f"{before} ( + 1 1": ("word", ")"), f"{before} ( + 1 1 )": after,
        f"{before} ( at": "row", f"{before} ( at b": "form", f"{before} ( at b 1": ("word", ")"),
        f"{before} ( shift": "row", f"{before} ( shift b": ("number", -400, 400),
        f"{before} ( shift b 1": ("number", -HALF, HALF - 1), f"{before} ( shift b 1 1": ("word", ")"),
        f"{before} ( if": "form", f"{before} ( if 1": "form", f"{before} ( if 1 1": "form",
        f"{before} ( if 1 1 1": ("word", ")"), f"{before} ( none": ("word", ")"), f"{before} ( two": "form",
        f"{before} ( two 1": "form", f"{before} ( two 1 1": ("word", ")"), f"{before} ( two 1 (": "head",
    })

# What ends each of these lines behind a form.
TAILS = {"let a": "", "let a 1 where": "", "put": "at 1 in a of 3 where 1", "put 1 at": "in a of 3 where 1",
         "put 1 at 1 in a of 3 where": "", "fold sum": "into c of 3 where 1", "fold sum 1 into c of 3 where": "",
         "run sum": "into a where 1", "run sum 1 into a where": ""}
WHOLE_FORMS = ["1", "here", "( + 1 1 )", "( at b 1 )", "( shift b 1 1 )", "( if 1 1 1 )", "( none )", "( two 1 1 )"]
WHOLE_LINES = ["row n 3", "def n p q r s t u = 1", "def n p q = ( + 1 1 )", "def n p q = ( if p q p )",
               "def n p q = ( two 1 1 )", "def n p q = ( none )"]
WHOLE_LINES += [f"{before} {form} {tail}" for before, tail in TAILS.items() for form in WHOLE_FORMS]


def wanted_behind(before):
    """What is wanted behind a beginning; which form stands whole in it makes no odds to what comes next."""
    if before in WANTED:
        return WANTED[before]
    for form in WHOLE_FORMS[1:]:
        plain = f"{before} ".replace(f" {form} ", " 1 ", 1).strip()
        if plain != before and plain in WANTED:
            return WANTED[plain]
    raise KeyError(before)


def due_at_form(word, known):
    if word in known + NUMBERS + ["here", "("]:
        return None
    return "NoName" if word in NAMES else "BadText"


def due_at_head(word, further):
    if word in SIGNS + HEADS + ["if"] + further:
        return None
    return "NoName" if word in NAMES else "BadText"


def due_at_new(word, had, further):
    if word in further:
        return None
    if word not in NAMES:
        return "BadText"
    return "Twice" if word in ROWS + HEADS + had else None


def due_at_number(word, least, most):
    return None if word in NUMBERS and least <= int(word) <= most else "BadText"


def due_at(wanted, word, before):
    """The refusal's class at the word where so much is wanted, or None where the word may stand there."""
    if wanted == "line":
        return None if word in "row def let put fold run till".split() else "BadText"
    if wanted == "end":
        return "BadText"
    if wanted == "where":
        return None if word == "where" else "BadText"
    if wanted == "new":
        return due_at_new(word, [], [])
    if wanted == "parameter":
        return due_at_new(word, before.split()[1:], ["="])
    if wanted == "row":
        return None if word in ROWS else "NoName" if word in NAMES else "BadText"
    if wanted == "fold":
        return None if word in FOLDS else "BadText"
    if wanted == "form":
        return due_at_form(word, ROWS)
    if wanted == "own form":
        return due_at_form(word, OWN)
    if wanted == "head":
        return due_at_head(word, ["at", "shift"])
    if wanted == "own head":
        return due_at_head(word, [])
    if wanted[0] == "number":
        return due_at_number(word, wanted[1], wanted[2])
    return None if word == wanted[1] else "BadText"


class AtEachWord(unittest.TestCase):
    def test_each_word_behind_each_beginning(self):
        for before, wanted in WANTED.items():
            for word in WORDS:
                due = due_at(wanted, word, before)
                if due is not None:
                    with self.subTest(before=before, word=word):
                        self.assertEqual(refusal_of(f"{HEAD}{before} {word}"), (due, 6))

    def test_each_word_in_the_place_of_another_in_whole_lines(self):
        seen = 0
        for line in WHOLE_LINES:
            words = line.split()
            self.assertIsNone(refusal_of(HEAD + line))
            for at in range(len(words)):
                before = " ".join(words[:at])
                wanted = wanted_behind(before)
                seen += 1
                for word in WORDS:
                    due = due_at(wanted, word, before)
                    if due is not None:
                        with self.subTest(line=line, at=at, word=word):
                            changed = " ".join(words[:at] + [word] + words[at + 1:])
                            self.assertEqual(refusal_of(HEAD + changed), (due, 6))
        self.assertEqual(seen, sum(len(line.split()) for line in WHOLE_LINES))

    def test_a_further_word_behind_whole_lines(self):
        for line in WHOLE_LINES + ["till a most 3"]:
            for word in WORDS:
                if word != "where" or "where" in line or line.split()[0] in ("row", "def", "till"):
                    with self.subTest(line=line, word=word):
                        self.assertEqual(refusal_of(f"{HEAD}{line} {word}\nend"), ("BadText", 6))

    def test_the_first_such_word_decides(self):
        for before, wanted in WANTED.items():
            for word in ("zz", "a", "none", ")", "-0", "shift"):
                due = due_at(wanted, word, before)
                if due is not None:
                    for rest in ("zz", "( zz", ") )", "-0 a", "( ( ("):
                        with self.subTest(before=before, word=word, rest=rest):
                            self.assertEqual(refusal_of(f"{HEAD}{before} {word} {rest}"), (due, 6))

    def test_a_word_that_may_stand_there_is_passed(self):
        # The next word is one that can stand nowhere, so it would be the second one's fault at the most.
        for before, wanted in WANTED.items():
            for word in WORDS:
                if due_at(wanted, word, before) is None:
                    with self.subTest(before=before, word=word):
                        self.assertEqual(refusal_of(f"{HEAD}{before} {word} @"), ("BadText", 6))

    def test_lines_that_end_where_a_word_is_wanted(self):
        for before, wanted in WANTED.items():
            if before != "" and wanted not in ("end", "where"):
                with self.subTest(before=before):
                    self.assertEqual(refusal_of(HEAD + before), ("BadText", 6))
                    self.assertEqual(refusal_of(HEAD + before + "  \n"), ("BadText", 6))

    def test_whole_lines_are_not_refused(self):
        for before, wanted in WANTED.items():
            if wanted in ("end", "where"):
                if before.startswith(("put", "fold", "run", "let", "row", "def")):
                    with self.subTest(before=before):
                        self.assertIn(refusal_of(HEAD + before), (None, ("Crossed", 6)))


class Lines(unittest.TestCase):
    def told(self, text, name, line):
        self.assertEqual(refusal_of(text), (name, line))

    def test_the_number_of_the_line(self):
        for ahead in range(5):
            self.told("\n" * ahead + "row", "BadText", ahead + 1)
            self.told(" \n" * ahead + "let a 1", "NoName", ahead + 1)

    def test_empty_lines_count(self):
        self.told("row a 3\n\n   \nrow a 4\n", "Twice", 4)

    def test_the_first_line_decides(self):
        self.told("row a 3\nlet b 1\nrow a 3\nrow", "NoName", 2)
        self.told("row a 3\nrow a 3\nlet b 1\nend", "Twice", 2)
        self.told("row a 3\nlet a b\nrow b 401", "NoName", 2)
        self.told("row a 3\nlet a ( at a 1 )\nrow", "Crossed", 2)
        self.told("row a 3\ntill a most 3\nrow", "BadText", 3)

    def test_a_first_word_of_no_line(self):
        for word in ("a", "zz", "0", "(", ")", "=", "where", "in", "sum", "+", "Row", "rows"):
            self.told(f"row a 3\n{word} a 1", "BadText", 2)

    def test_the_classes_stand_under_line_error(self):
        for text in ("row", "let a 1", "row a 3\nrow a 3"):
            with self.assertRaises(errors.LineError) as taken:
                read(text)
            self.assertIs(type(taken.exception.line), int)


class Deep(unittest.TestCase):
    def told(self, text, name):
        self.assertEqual(refusal_of("row a 3\nrow b 3\n" + text), (name, 3))

    def test_the_thirty_first_open_bracket(self):
        self.told("let a " + "( at b " * 31 + "1" + " )" * 31, "TooDeep")
        self.told("let a " + "( at b " * 30 + "(", "TooDeep")
        self.told("let a " + "( at b " * 30 + "1 ) (", "BadText")
        self.told("let a " + "( at b " * 30, "BadText")
        self.told("let a " + "( at b " * 30 + "-0", "BadText")
        self.told("let a " + "( at b " * 30 + "zz", "NoName")

    def test_in_a_def(self):
        self.told("def f = " + "( + 1 " * 31, "TooDeep")
        self.told("def f = " + "( + 1 " * 30, "BadText")

    def test_in_each_form_of_a_line(self):
        deep = "( at b " * 30 + "("
        for before in ("put", "put 1 at", "put 1 at 1 in a of 3 where", "fold sum", "run sum", "let a 1 where"):
            self.told(f"{before} {deep}", "TooDeep")

    def test_where_no_form_is_wanted_it_is_a_bad_word(self):
        self.told("let a " + "( + 1 " * 29 + "( (", "BadText")
        self.told("let a " + "( + 1 " * 29 + "( at (", "BadText")
        self.told("let a " + "( + 1 " * 29 + "( + 1 1 (", "BadText")

    def test_brackets_that_were_closed_are_not_open(self):
        some = "( + ( at b 1 ) "
        self.told("let a " + some * 30 + "(", "TooDeep")
        self.told("let a " + some * 29 + "( at b zz", "NoName")

    def test_a_fault_ahead_of_it_decides(self):
        self.told("let a ( at zz " + "( at b " * 40, "NoName")
        self.told("let zz " + "( at b " * 40, "NoName")
        self.told("let a " + "( + -0 " * 40, "BadText")


class Names(unittest.TestCase):
    def told(self, text, name):
        self.assertEqual(refusal_of(HEAD + text), (name, 6))

    def test_of_twelve_and_of_thirteen_letters(self):
        self.assertIsNone(refusal_of("row abcdefghijkl 3"))
        self.assertEqual(refusal_of("row abcdefghijklm 3"), ("BadText", 1))
        self.told("let a abcdefghijkl", "NoName")
        self.told("let a abcdefghijklm", "BadText")
        self.told("let abcdefghijklm 1", "BadText")

    def test_kept_words_are_no_names(self):
        for word in KEPT:
            with self.subTest(word=word):
                self.told(f"row {word} 3", "BadText")
                self.told(f"def {word} = 1", "BadText")
                self.told(f"def n {word} = 1", "BadText")
                self.told(f"let {word} 1", "BadText")
                self.told(f"let a ( at {word} 1 )", "BadText")

    def test_a_functions_name_without_a_bracket(self):
        self.told("let a none", "NoName")
        self.told("def n = none", "NoName")
        self.told("def n = n", "NoName")
        self.told("let none 1", "NoName")

    def test_a_rows_name_in_a_def(self):
        self.told("def n p = a", "NoName")
        self.told("def n p = ( + p c )", "NoName")

    def test_behind_a_bracket_that_is_no_function_of_an_earlier_line(self):
        self.told("let a ( a 1 )", "NoName")
        self.told("let a ( zz 1 )", "NoName")
        self.told("def n p = ( p 1 )", "NoName")
        self.told("def n p = ( n 1 )", "NoName")
        self.told("def n p = ( a 1 )", "NoName")

    def test_at_and_shift_in_a_def(self):
        self.told("def n = ( at a 1 )", "BadText")
        self.told("def n = ( at zz 1 )", "BadText")
        self.told("def n = ( shift a 1 1 )", "BadText")
        self.told("def n p = ( + p ( shift zz 1 1 ) )", "BadText")

    def test_as_many_forms_as_the_function_has_parameters(self):
        self.told("let a ( none 1 )", "BadText")
        self.told("let a ( none zz )", "BadText")
        self.told("let a ( two 1 )", "BadText")
        self.told("let a ( two 1 2 3 )", "BadText")
        self.told("let a ( two )", "BadText")

    def test_as_many_forms_as_the_sign_joins(self):
        self.told("let a ( + 1 )", "BadText")
        self.told("let a ( + 1 2 3 )", "BadText")
        self.told("let a ( if 1 2 )", "BadText")
        self.told("let a ( if 1 2 3 4 )", "BadText")
        self.told("let a ( at b )", "BadText")
        self.told("let a ( at b 1 2 )", "BadText")


class HadAlready(unittest.TestCase):
    def told(self, text, name):
        self.assertEqual(refusal_of(HEAD + text), (name, 6))

    def test_rows_and_functions(self):
        for name in ROWS + HEADS:
            self.told(f"row {name} 3", "Twice")
            self.told(f"def {name} = 1", "Twice")
            self.told(f"def n {name} = 1", "Twice")
            self.told(f"def n p q {name} = 1", "Twice")

    def test_ahead_of_what_comes_behind_the_name(self):
        self.told("row a", "Twice")
        self.told("row a 0", "Twice")
        self.told("row a 3 3", "Twice")
        self.told("def a", "Twice")
        self.told("def n a", "Twice")

    def test_a_defs_own_name_and_parameters(self):
        self.told("def n n = 1", "Twice")
        self.told("def n p p = 1", "Twice")
        self.told("def n p q p = 1", "Twice")
        self.told("def n p q r s t t = 1", "Twice")
        self.told("def n p q r s t n = 1", "Twice")

    def test_a_seventh_parameter(self):
        self.told("def n p q r s t u v = 1", "BadText")
        self.told("def n p q r s t u p = 1", "BadText")
        self.told("def n p q r s t u a = 1", "BadText")
        self.told("def n p q r s t u n = 1", "BadText")
        self.told("def n p q r s t u 1", "BadText")
        self.told("def n p q r s t u", "BadText")
        self.assertIsNone(refusal_of(HEAD + "def n p q r s t u = 1"))

    def test_the_name_of_a_refused_reading_is_not_kept(self):
        self.assertEqual(refusal_of("row a 3"), None)
        self.assertEqual(refusal_of("row a 3"), None)


class Tills(unittest.TestCase):
    def told(self, text, name, line):
        self.assertEqual(refusal_of("row a 3\n" + text), (name, line))

    def test_an_end_without_a_till(self):
        self.told("end", "BadText", 2)
        self.told("let a 1\nend\nzz", "BadText", 3)
        self.told("till a most 3\nend\nend", "BadText", 4)
        self.told("till a most 3\ntill a most 3\nend\nend\nlet a 1\nend", "BadText", 7)

    def test_a_word_behind_an_end(self):
        for word in ("end", "a", "1", "where"):
            self.told(f"till a most 3\nend {word}", "BadText", 3)

    def test_one_that_stays_open(self):
        self.told("till a most 3", "BadText", 3)
        self.told("till a most 3\n", "BadText", 4)
        self.told("till a most 3\n\n \n", "BadText", 6)
        self.told("till a most 3\nlet a 1\nend\ntill a most 3\nlet a 2", "BadText", 7)
        self.told("till a most 3\ntill a most 3\nend", "BadText", 5)

    def test_a_fault_in_one_that_stays_open_comes_first(self):
        self.told("till a most 3\nlet zz 1", "NoName", 3)

    def test_row_and_def_within_one(self):
        self.told("till a most 3\nrow n 3\nend", "BadText", 3)
        self.told("till a most 3\nrow a 3\nend", "BadText", 3)
        self.told("till a most 3\ndef n = 1\nend", "BadText", 3)
        self.told("till a most 3\ndef a = 1\nend", "BadText", 3)
        self.told("till a most 3\ndef n = zz\nend", "BadText", 3)
        self.told("till a most 3\ntill a most 3\nend\nrow n 3\nend", "BadText", 5)

    def test_row_and_def_behind_one(self):
        self.assertIsNone(refusal_of("row a 3\ntill a most 3\nend\nrow n 3\ndef f = 1"))

    def test_its_bounds(self):
        self.told("till a most 0\nend", "BadText", 2)
        self.told("till a most 1001\nend", "BadText", 2)
        self.told("till a most -1\nend", "BadText", 2)
        self.assertIsNone(refusal_of("row a 3\ntill a most 1000\nend\ntill a most 1\nend"))

    def test_it_has_no_where(self):
        self.told("till a most 3 where 1\nend", "BadText", 2)

    def test_the_same_line_told_in_a_till(self):
        self.told("till a most 3\nlet a\nend", "BadText", 3)


class Numbers(unittest.TestCase):
    def test_bounds_of_a_row(self):
        for number in (1, 2, 399, 400):
            self.assertIsNone(refusal_of(f"row n {number}"))
        for word in ("0", "401", "-1", "-0", "007", "01", "n", "zz", "here", "(", str(HALF), "9" * 5900):
            self.assertEqual(refusal_of(f"row n {word}"), ("BadText", 1))

    def test_bounds_of_many(self):
        for number in (1, 400):
            self.assertIsNone(refusal_of(f"{HEAD}put 1 at 1 in a of {number}"))
            self.assertIsNone(refusal_of(f"{HEAD}fold sum 1 into c of {number}"))
        for number in (0, 401, -1):
            self.assertEqual(refusal_of(f"{HEAD}put 1 at 1 in a of {number}"), ("BadText", 6))
            self.assertEqual(refusal_of(f"{HEAD}fold sum 1 into c of {number}"), ("BadText", 6))

    def test_bounds_of_a_shift(self):
        for number in (-400, 0, 400):
            self.assertIsNone(refusal_of(f"{HEAD}let a ( shift b {number} 1 )"))
        for number in (-401, 401, -HALF, HALF - 1, HALF):
            self.assertEqual(refusal_of(f"{HEAD}let a ( shift b {number} 1 )"), ("BadText", 6))

    def test_just_beyond_what_is_kept(self):
        for number in (HALF - 1, -HALF):
            self.assertIsNone(refusal_of(f"row n 1\nlet n {number}"))
            self.assertIsNone(refusal_of(f"row n 1\nrow m 1\nlet n ( shift m 0 {number} )"))
        for number in (HALF, -HALF - 1, 10 ** 19, -(10 ** 19)):
            self.assertEqual(refusal_of(f"row n 1\nlet n {number}"), ("BadText", 2))
            self.assertEqual(refusal_of(f"row n 1\nrow m 1\nlet n ( shift m 0 {number} )"), ("BadText", 3))

    def test_more_figures_than_python_reads(self):
        for word in ("9" * 5900, "-" + "9" * 5900, "0" * 5900):
            self.assertEqual(refusal_of(f"row n 1\nlet n {word}"), ("BadText", 2))


if __name__ == "__main__":
    unittest.main()

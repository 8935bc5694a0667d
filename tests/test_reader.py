"""What lines and forms are read as, and what a Source tells: points [12], [14], [15] and [17]."""

import random
import unittest

from helper import refusal_of, shown
from rowbreadth import formreader
from rowbreadth.forms import At, Call, Cell, Choice, Here, Local, Number, Pair, Shifted
from rowbreadth.looks import crossed, depth_of, size_of, uneven
from rowbreadth.plain import played
from rowbreadth.reader import Source, read
from rowbreadth.steps import Fold, Let, Program, Put, Running, Till

HALF = 2 ** 63
ONE, TWO, THREE = Number(1), Number(2), Number(3)
SIGNS = ["+", "-", "*", "/", "rest", "least", "most", "<", "=", "&", "|", "^"]
FOLDS = ["sum", "product", "least", "most", "both", "either", "odd", "chain", "capped"]
# Rows a of 3 cells, b of 3 and c of one; functions none of no parameter and two of two.
HEAD = "row a 3\nrow b 3\nrow c 1\ndef none = 4\ndef two x y = ( - x y )\n"


def steps_of(lines):
    return read(HEAD + lines).program.steps


class Reading(unittest.TestCase):
    def same(self, got, wanted):
        self.assertEqual(shown(got), shown(wanted))

    def form(self, words, wanted):
        self.same(steps_of("let a " + words)[0], Let(0, wanted))

    def number(self, word, number):
        self.form(word, Number(number))


class Rows(Reading):
    def test_one_and_several(self):
        self.assertEqual(read("row a 1").program.lengths, [1])
        source = read("row a 400\nrow b 1\nrow c 7")
        self.assertEqual((source.program.lengths, source.names, source.lines), ([400, 1, 7], ["a", "b", "c"], []))

    def test_a_text_of_none(self):
        for text in ("", "\n", "   ", "\n  \n\n"):
            source = read(text)
            self.same(source.program, Program([], [], []))
            self.assertEqual((source.names, source.lines), ([], []))

    def test_names_of_one_and_of_twelve_letters(self):
        for name in ("a", "z", "abcdefghijkl", "zzzzzzzzzzzz", "rows", "ends", "wheres"):
            self.assertEqual(read(f"row {name} 3\nlet {name} {name}").names, [name])

    def test_a_row_behind_steps_and_functions(self):
        source = read("row a 3\nlet a 1\nrow b 3\ndef f = 1\nrow c 3\nlet c b")
        self.assertEqual((source.names, source.program.lengths), (["a", "b", "c"], [3, 3, 3]))
        self.same(source.program.steps, [Let(0, ONE), Let(2, Cell(1))])


class Functions(Reading):
    def functions(self, text):
        return read(text).program.functions

    def test_each_number_of_parameters(self):
        self.same(self.functions("def f = 5"), [(0, Number(5))])
        self.same(self.functions("def f x = x"), [(1, Local(0))])
        for many in range(1, 7):
            names = ["p", "q", "r", "s", "t", "u"][:many]
            for at, name in enumerate(names):
                self.same(self.functions(f"def f {' '.join(names)} = {name}"), [(many, Local(at))])

    def test_forms_of_a_body(self):
        text = "def f = here\ndef h x = ( * x ( f ) )\ndef g x y = ( if x ( + y -1 ) ( h ( h y ) ) )"
        self.same(self.functions(text), [
            (0, Here()), (1, Pair("*", Local(0), Call(0, []))),
            (2, Choice(Local(0), Pair("+", Local(1), Number(-1)), Call(1, [Call(1, [Local(1)])])))])

    def test_each_sign_in_a_body(self):
        for sign in SIGNS:
            self.same(self.functions(f"def f x = ( {sign} x 2 )"), [(1, Pair(sign, Local(0), TWO))])

    def test_parameters_are_known_in_their_def_alone(self):
        self.assertEqual(refusal_of("def f x = x\ndef g = x"), ("NoName", 2))
        self.assertEqual(refusal_of("row a 1\ndef f x = x\nlet a x"), ("NoName", 3))
        self.same(self.functions("def f x y = y\ndef g y x = y"), [(2, Local(1)), (2, Local(0))])

    def test_a_parameters_name_may_be_a_rows_or_functions_later(self):
        source = read("def f x y = x\nrow x 3\ndef y = 1\nlet x ( f x ( y ) )")
        self.same(source.program.steps, [Let(0, Call(0, [Cell(0), Call(1, [])]))])

    def test_functions_among_steps(self):
        source = read("row a 2\nlet a 1\ndef f x = ( + x 1 )\nlet a ( f a )")
        self.same(source.program, Program([2], [(1, Pair("+", Local(0), ONE))],
                                          [Let(0, ONE), Let(0, Call(0, [Cell(0)]))]))
        self.assertEqual(source.lines, [2, 4])

    def test_names_of_rows_and_functions_lie_apart(self):
        source = read("row a 1\ndef f = 1\nrow b 1\ndef g = 2\nlet b ( + ( g ) a )")
        self.assertEqual(source.names, ["a", "b"])
        self.same(source.program.steps, [Let(1, Pair("+", Call(1, []), Cell(0)))])


class Steps(Reading):
    def test_let(self):
        self.same(steps_of("let a 1"), [Let(0, ONE)])
        self.same(steps_of("let b a where c"), [Let(1, Cell(0), Cell(2))])

    def test_put(self):
        self.same(steps_of("put a at here in b of 3"), [Put(1, Cell(0), Here(), 3)])
        self.same(steps_of("put 1 at 2 in a of 1"), [Put(0, ONE, TWO, 1)])
        self.same(steps_of("put ( at a 1 ) at ( + here 1 ) in b of 400 where ( < here 9 )"),
                  [Put(1, At(0, ONE), Pair("+", Here(), ONE), 400, Pair("<", Here(), Number(9)))])

    def test_fold(self):
        for fold in FOLDS:
            self.same(steps_of(f"fold {fold} a into c of 3"), [Fold(2, fold, Cell(0), 3)])
        self.same(steps_of("fold sum 1 into c of 1 where here"), [Fold(2, "sum", ONE, 1, Here())])
        self.same(steps_of("fold most ( most 1 2 ) into c of 400"), [Fold(2, "most", Pair("most", ONE, TWO), 400)])

    def test_run(self):
        for fold in FOLDS:
            self.same(steps_of(f"run {fold} a into b"), [Running(1, fold, Cell(0))])
        self.same(steps_of("run sum 1 into a where ( = a 2 )"), [Running(0, "sum", ONE, Pair("=", Cell(0), TWO))])

    def test_a_line_without_where_has_no_test(self):
        lines = "let a 1\nput 1 at 1 in a of 1\nfold sum 1 into c of 1\nrun sum 1 into a"
        for step in steps_of(lines):
            self.assertIsNone(step.test)

    def test_till(self):
        self.same(steps_of("till a most 1\nend"), [Till(0, 1, [])])
        self.same(steps_of("till c most 1000\nlet a 1\nlet b 2\nend"), [Till(2, 1000, [Let(0, ONE), Let(1, TWO)])])

    def test_tills_behind_and_within_one_another(self):
        lines = ("let a 1\ntill a most 2\nlet a 2\ntill b most 3\ntill c most 4\nlet c 1\nend\nlet b 3\nend\nlet c 2\nend\n"
                 "till c most 5\nend\nlet c 3")
        self.same(steps_of(lines), [
            Let(0, ONE),
            Till(0, 2, [Let(0, TWO), Till(1, 3, [Till(2, 4, [Let(2, ONE)]), Let(1, THREE)]), Let(2, TWO)]),
            Till(2, 5, []), Let(2, THREE)])

    def test_forty_of_them(self):
        source = read(HEAD + "let a 1\n" * 40)
        self.assertEqual(len(source.program.steps), 40)


class Forms(Reading):
    def test_numbers(self):
        for number in (0, 1, -1, 9, 10, -10, 100, HALF - 1, -HALF):
            self.number(str(number), number)

    def test_here_and_rows(self):
        self.form("here", Here())
        self.form("a", Cell(0))
        self.form("b", Cell(1))
        self.form("c", Cell(2))

    def test_each_sign(self):
        for sign in SIGNS:
            self.form(f"( {sign} b -5 )", Pair(sign, Cell(1), Number(-5)))

    def test_at(self):
        self.form("( at b here )", At(1, Here()))
        self.form("( at c ( at b 0 ) )", At(2, At(1, Number(0))))

    def test_shift(self):
        self.form("( shift b 1 0 )", Shifted(1, 1, 0))
        for by in (-400, -1, 0, 400):
            self.form(f"( shift b {by} -7 )", Shifted(1, by, -7))
        for other in (-HALF, 401, HALF - 1):
            self.form(f"( shift c 0 {other} )", Shifted(2, 0, other))

    def test_choice(self):
        self.form("( if a b 3 )", Choice(Cell(0), Cell(1), THREE))
        self.form("( if ( if 1 2 3 ) ( if 3 2 1 ) here )",
                  Choice(Choice(ONE, TWO, THREE), Choice(THREE, TWO, ONE), Here()))

    def test_calls(self):
        self.form("( none )", Call(0, []))
        self.form("( two 1 a )", Call(1, [ONE, Cell(0)]))
        self.form("( two ( two 1 2 ) ( none ) )", Call(1, [Call(1, [ONE, TWO]), Call(0, [])]))

    def test_a_call_of_six(self):
        source = read("row a 1\ndef f p q r s t u = ( + p u )\nlet a ( f 1 2 3 4 5 6 )")
        self.same(source.program.steps, [Let(0, Call(0, [Number(number) for number in range(1, 7)]))])

    def test_brackets_without_blanks_beside_them(self):
        self.form("(+ 1(* a(two 2 3)))", Pair("+", ONE, Pair("*", Cell(0), Call(1, [TWO, THREE]))))
        self.same(steps_of("put(none)at(+ here 1)in a of 2 where(none)"),
                  [Put(0, Call(0, []), Pair("+", Here(), ONE), 2, Call(0, []))])
        self.assertEqual(refusal_of("def f x=(+ x 1)"), ("BadText", 1))
        self.same(read("def f x =(+ x 1)").program.functions, [(1, Pair("+", Local(0), ONE))])

    def test_several_blanks(self):
        self.same(steps_of("   let    a   (  +   1    2  )   where   1   "), [Let(0, Pair("+", ONE, TWO), ONE)])

    def test_thirty_open_brackets(self):
        self.form("( at b " * 30 + "1" + " )" * 30, nested_at(30))

    def test_brackets_that_were_closed_do_not_count(self):
        words = "( + " + "( at b " * 29 + "1" + " )" * 29 + " " + "( at b " * 28 + "1" + " )" * 28 + " )"
        self.form(words, Pair("+", nested_at(29), nested_at(28)))
        line = "let a " + "( at b " * 30 + "1" + " )" * 30 + " where " + "( at b " * 30 + "1" + " )" * 30
        self.same(steps_of(line), [Let(0, nested_at(30), nested_at(30))])

    def test_brackets_of_other_lines_do_not_count(self):
        line = "let a " + "( at b " * 30 + "1" + " )" * 30
        self.assertEqual(len(steps_of(line + "\n" + line)), 2)


def nested_at(many):
    form = ONE
    for _ in range(many):
        form = At(1, form)
    return form


class Known(Reading):
    def test_rows_from_the_line_behind_their_own_on(self):
        self.assertEqual(refusal_of("let a 1\nrow a 3"), ("NoName", 1))
        self.assertEqual(refusal_of("row a 3\nlet a b\nrow b 3"), ("NoName", 2))
        self.assertIsNone(refusal_of("row a 3\nrow b 3\nlet a b"))

    def test_functions_from_the_line_behind_their_own_on(self):
        self.assertEqual(refusal_of("row a 3\nlet a ( f )\ndef f = 1"), ("NoName", 2))
        self.assertEqual(refusal_of("def f = ( g )\ndef g = 1"), ("NoName", 1))
        self.assertEqual(refusal_of("def f x = ( f 1 )"), ("NoName", 1))
        self.assertIsNone(refusal_of("def g = 1\ndef f = ( g )"))


class Sources(Reading):
    TEXT = ("row a 3\n\nrow b 1\n  \nlet a 1\ntill b most 5\n\nlet a 2\ntill a most 2\nfold sum a into b of 3\nend\n"
            "run sum a into a\nend\ndef f = 2\nput 1 at 1 in a of 1\n")

    def test_names_lines_and_program(self):
        source = read(self.TEXT)
        self.assertIsInstance(source, Source)
        self.assertIs(type(source.program), Program)
        self.assertEqual(source.names, ["a", "b"])
        self.assertEqual(source.lines, [5, 6, 8, 9, 10, 12, 15])
        self.same(source.program, Program([3, 1], [(0, TWO)], [
            Let(0, ONE),
            Till(1, 5, [Let(0, TWO), Till(0, 2, [Fold(1, "sum", Cell(0), 3)]), Running(0, "sum", Cell(0))]),
            Put(0, ONE, ONE, 1)]))

    def test_the_kinds_of_its_fields(self):
        source = read(self.TEXT)
        self.assertIs(type(source.names), list)
        self.assertIs(type(source.lines), list)
        self.assertIs(type(source.program.lengths), list)
        self.assertIs(type(source.program.functions), list)
        self.assertIs(type(source.program.functions[0]), tuple)
        self.assertTrue(all(type(line) is int for line in source.lines))

    def test_what_is_told_is_the_askers_own(self):
        first = read(self.TEXT)
        told = shown(first.program)
        second = read(self.TEXT)
        for changed in (second.names, second.lines, second.program.lengths, second.program.functions):
            changed.clear()
        second.program.steps[1].steps.clear()
        second.program.steps.clear()
        self.assertEqual((shown(first.program), first.names), (told, ["a", "b"]))
        self.assertEqual(shown(read(self.TEXT).program), told)

    def test_its_lists_are_not_one_list(self):
        source = read("row a 3\nlet a 1")
        source.lines.append(9)
        source.names.append("b")
        self.assertEqual((source.program.lengths, len(source.program.steps)), ([3], 1))

    def test_it_plays(self):
        source = read("row a 3\nrow b 1\nlet a ( + here 1 )\nfold product a into b of 3")
        self.assertEqual(played(source.program, [0, 0, 0, 1]), ([1, 2, 3, 6], None))

    def test_the_forms_reader_is_there(self):
        self.assertEqual(formreader.__name__, "rowbreadth.formreader")


class Writer:
    """Makes texts, by numbers that are the same at each run, and what they are to be read as."""

    def __init__(self, seed):
        self.by = random.Random(seed)
        self.lengths, self.functions, self.lines = [], [], []

    def pick(self, things):
        return things[self.by.randrange(len(things))]

    def bracket(self, words):
        return self.pick(["( {} )", "({})", " ({} ) "]).format(" ".join(words))

    def leaf(self, rows, own):
        made = [(str(number), Number(number)) for number in (0, -1, 7, HALF - 1, -HALF)] + [("here", Here())]
        if own is None:
            made += [(f"r{'abcdefghijkl'[row]}", Cell(row)) for row in rows]
        else:
            made += [(f"p{'abcdef'[at]}", Local(at)) for at in range(own)]
        return self.pick(made)

    def form(self, rows, free, own, deep):
        """The words and the form; rows may be read by Cell, the free ones by at and shift too."""
        kind = self.pick(["leaf", "pair", "pair", "if", "at", "shift", "call"]) if deep else "leaf"
        if kind == "pair":
            sign = self.pick(SIGNS)
            left, right = self.form(rows, free, own, deep - 1), self.form(rows, free, own, deep - 1)
            return self.bracket([sign, left[0], right[0]]), Pair(sign, left[1], right[1])
        if kind == "if":
            parts = [self.form(rows, free, own, deep - 1) for _ in range(3)]
            return self.bracket(["if"] + [part[0] for part in parts]), Choice(*[part[1] for part in parts])
        if kind in ("at", "shift") and own is None and free:
            row = self.pick(free)
            name = f"r{'abcdefghijkl'[row]}"
            if kind == "at":
                place = self.form(rows, free, own, deep - 1)
                return self.bracket(["at", name, place[0]]), At(row, place[1])
            by, other = self.by.randint(-400, 400), self.pick([0, -HALF, HALF - 1])
            return self.bracket(["shift", name, str(by), str(other)]), Shifted(row, by, other)
        if kind == "call" and self.functions:
            at = self.by.randrange(len(self.functions))
            parts = [self.form(rows, free, own, deep - 1) for _ in range(self.functions[at][0])]
            return self.bracket([f"f{'abcdefgh'[at]}"] + [part[0] for part in parts]), Call(at, [p[1] for p in parts])
        return self.leaf(rows, own)

    def small(self, rows, free, own):
        while True:
            words, form = self.form(rows, free, own, self.by.randrange(4))
            if size_of(form, self.functions) <= 60 and depth_of(form, self.functions) <= 7:
                return words, form

    def forms(self, target, many, cell_too, number):
        even = [row for row, length in enumerate(self.lengths) if length in (many, 1)]
        free = [row for row in range(len(self.lengths)) if row != target]
        rows = even if cell_too else [row for row in even if row != target]
        return [self.small(rows, free, None) for _ in range(number)]

    def step(self):
        target, kind = self.by.randrange(len(self.lengths)), self.pick(["let", "put", "fold", "run"])
        name, fold = f"r{'abcdefghijkl'[target]}", self.pick(FOLDS)
        many = self.lengths[target] if kind in ("let", "run") else self.pick(self.lengths + [400])
        if kind == "fold" and self.lengths[target] != 1:
            return self.step()
        value, place, test = self.forms(target, many, kind in ("let", "run"), 3)
        where, asked = (f" where {test[0]}", test[1]) if self.by.randrange(2) else ("", None)
        if kind == "let":
            return f"let {name} {value[0]}{where}", Let(target, value[1], asked)
        if kind == "run":
            return f"run {fold} {value[0]} into {name}{where}", Running(target, fold, value[1], asked)
        if kind == "fold":
            return f"fold {fold} {value[0]} into {name} of {many}{where}", Fold(target, fold, value[1], many, asked)
        return (f"put {value[0]} at {place[0]} in {name} of {many}{where}",
                Put(target, value[1], place[1], many, asked))

    def steps(self, many, deep):
        lines, steps = [], []
        for _ in range(many):
            if deep and self.by.randrange(3) == 0:
                target, most = self.by.randrange(len(self.lengths)), self.pick([1, 5, 1000])
                words, inner = self.steps(self.by.randrange(3), deep - 1)
                lines += [f"till r{'abcdefghijkl'[target]} most {most}"] + words + [" end "]
                steps.append(Till(target, most, inner))
            else:
                words, step = self.step()
                lines.append(words)
                steps.append(step)
            lines += [""] * self.by.randrange(2)
        return lines, steps

    def text(self):
        for row in range(self.by.randint(1, 12)):
            self.lengths.append(self.pick([1, 2, 3, 400]))
            self.lines.append(f"row r{'abcdefghijkl'[row]} {self.lengths[row]}")
        for at in range(self.by.randrange(9)):
            own = self.by.randrange(7)
            words, body = self.small([], [], own)
            names = " ".join(f"p{'abcdef'[k]}" for k in range(own))
            self.lines.append(f"def f{'abcdefgh'[at]} {names} = {words}")
            self.functions.append((own, body))
        lines, steps = self.steps(self.by.randrange(6), 3)
        return "\n".join(self.lines + lines), Program(self.lengths, self.functions, steps)


class WrittenAndRead(Reading):
    def is_sound(self, steps, lengths):
        for step in steps:
            self.assertFalse(uneven(step, lengths) or crossed(step))
            if isinstance(step, Till):
                self.is_sound(step.steps, lengths)

    def test_many_texts(self):
        seen = 0
        for seed in range(400):
            text, program = Writer(seed).text()
            if len(text) > 6000:
                continue
            seen += 1
            with self.subTest(seed=seed):
                source = read(text)
                self.same(source.program, program)
                self.is_sound(source.program.steps, source.program.lengths)
                firsts = [number for number, line in enumerate(text.split("\n"), start=1)
                          if line.split() and line.split("(")[0].split()[0] in ("let", "put", "fold", "run", "till")]
                self.assertEqual(source.lines, firsts)
        self.assertGreater(seen, 300)


if __name__ == "__main__":
    unittest.main()

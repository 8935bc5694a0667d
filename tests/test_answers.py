"""Answers to texts: points [1] and [34]."""

import unittest
from unittest import mock

from helper import Sower, refusal_of
from rowbreadth.answers import answers, plainly
from rowbreadth.errors import BadText, Crossed, LineError, NoName, TooDeep, TooLong, TooMany, Twice, Uneven
from rowbreadth.forms import At, Call, Cell, Choice, Here, Local, Number, Pair, Shifted
from rowbreadth.machine import ran
from rowbreadth.plain import played
from rowbreadth.reader import read
from rowbreadth.shortener import shortened
from rowbreadth.stepmaker import made
from rowbreadth.steps import Fold, Let, Put, Running, Till

DUSTS = ([], [1], [-1, 0, 7, 2 ** 63 - 1])
TEXT = """
row price 3

row total 1
row names 4
def twice x = ( * x 2 )
let price ( twice price ) where ( < 0 price )

fold sum price into total of 3
run most ( shift names 1 0 ) into spare
put here at ( rest here 4 ) in names of 6
till total most 10
  let total ( - total 1 ) where total
  let total ( if total total 1 )
end
""".replace("row names 4\n", "row names 4\nrow spare 4\n")


class Answering(unittest.TestCase):
    def both(self, text, starts, lanes=(1, 2, 3, 64)):
        """What the plain play tells, which the machine tells too, whatever it is handed."""
        told = plainly(text, starts)
        for at, many in enumerate(lanes):
            for group in (0, 1, 2, 4):
                for short in (True, False):
                    with self.subTest(lanes=many, group=group, short=short):
                        dust, picks = DUSTS[at % 3], DUSTS[group % 3]
                        self.assertEqual(answers(text, starts, many, dust, picks, group, short), told)
            self.assertEqual(answers(text, starts, many, DUSTS[at % 3], []), told)
        return told


class Texts(Answering):
    def test_each_kind_of_line(self):
        told = self.both(TEXT, {"price": [1, -2, 3], "names": [5, 6, 7, 8]})
        self.assertEqual(told, ([("price", [2, -2, 6]), ("total", [5]), ("names", [4, 5, 2, 3]), ("spare", [6, 7, 8, 8])],
                                None))

    def test_starts_that_name_none_some_and_all_of_the_rows(self):
        text = "row a 2\nrow b 1\nrow c 3\nlet c ( + c 1 )"
        self.assertEqual(self.both(text, {}), ([("a", [0, 0]), ("b", [0]), ("c", [1, 1, 1])], None))
        self.assertEqual(self.both(text, {"b": [7]})[0], [("a", [0, 0]), ("b", [7]), ("c", [1, 1, 1])])
        self.assertEqual(self.both(text, {"c": [3, 4, 5], "a": [1, 2]})[0], [("a", [1, 2]), ("b", [0]), ("c", [4, 5, 6])])
        self.assertEqual(self.both(text, {"c": [3, 4, 5], "b": [9], "a": [1, 2]})[0],
                         [("a", [1, 2]), ("b", [9]), ("c", [4, 5, 6])])

    def test_texts_without_steps_and_without_rows(self):
        self.assertEqual(self.both("", {}), ([], None))
        self.assertEqual(self.both("\n\ndef f = 1\n", {}), ([], None))
        self.assertEqual(self.both("row b 2\nrow a 1", {"a": [-5]}), ([("b", [0, 0]), ("a", [-5])], None))

    def test_the_edges_of_what_is_kept(self):
        edge = 2 ** 63
        text = "row a 2\nlet a ( + a 1 )"
        self.assertEqual(self.both(text, {"a": [edge - 1, -edge]})[0], [("a", [-edge, -edge + 1])])

    def test_the_kinds_of_what_is_told(self):
        for told in (plainly(TEXT, {}), answers(TEXT, {}, 2, [], [])):
            self.assertIs(type(told), tuple)
            self.assertIs(type(told[0]), list)
            for row in told[0]:
                self.assertEqual((type(row), type(row[0]), type(row[1])), (tuple, str, list))


class Refusals(Answering):
    def test_the_line_of_the_step(self):
        text = "\nrow a 3\n\n\nlet a 1\n\nlet a ( / 4 ( - here 1 ) )\nlet a 9"
        self.assertEqual(self.both(text, {}), ([("a", [-4, 1, 1])], (7, 1, "nought")))
        text = "row a 3\nrow b 2\nlet a 5\nput 1 at here in b of 3"
        self.assertEqual(self.both(text, {}), ([("a", [5, 5, 5]), ("b", [1, 1])], (4, 2, "outside")))
        self.assertEqual(self.both("row a 2\nrow b 2\nlet a ( at b 2 )", {})[1], (3, 0, "outside"))

    def test_within_tills(self):
        text = ("row a 1\nrow b 1\nlet a 0\n\ntill b most 5\n\nlet a ( + a 1 )\ntill a most 3\n\n\nlet b ( / 6 ( - a 3 ) )"
                "\nlet b 0\nend\nend\n")
        self.assertEqual(self.both(text, {}), ([("a", [3]), ("b", [0])], (11, 0, "nought")))

    def test_endless(self):
        text = "row a 1\nrow b 2\n\nlet a 1\ntill a most 2\n\ntill b most 4\nlet a ( + a 1 )\nend\nend"
        self.assertEqual(self.both(text, {}), ([("a", [5]), ("b", [0, 0])], (7, 4, "endless")))
        self.assertEqual(self.both("row b 2\n\n\ntill b most 1000\nend", {}, (2,))[1], (4, 1000, "endless"))

    def test_a_text_that_is_refused(self):
        deep = "( + 1 " * 31 + "1" + " )" * 31
        for text, kind, line in (("row a", BadText, 1), ("row a 3\n\nlet b 1", NoName, 3), ("row a 3\nrow a 3", Twice, 2),
                                 ("".join(f"row {name} 1\n" for name in "abcdefghijklm"), TooMany, 13),
                                 ("row a 3\nlet a " + deep, TooDeep, 2),
                                 ("row a 1\nlet a " + "( at a " * 29 + "( + " + "1 " * 2 + ")" + " )" * 29, Crossed, 2),
                                 ("row a 3\nrow b 2\nlet a b", Uneven, 3), ("row a 1\ntill a most 1", BadText, 3),
                                 ("row a 1\nlet a ( + ( + " + "( + 1 " * 20 + "1" + " )" * 20 + " " + "( + 1 " * 20 + "1"
                                  + " )" * 20 + " ) 1 )", TooLong, 2)):
            with self.subTest(text=text):
                self.assertEqual(refusal_of(text), (kind.__name__, line))
                for ask in (lambda: plainly(text, {}), lambda: answers(text, {}, 2, [], []),
                            lambda: answers(text, {}, 2, [], [], 4, False)):
                    with self.assertRaises(LineError) as seen:
                        ask()
                    self.assertIs(type(seen.exception), kind)
                    self.assertEqual(seen.exception.line, line)


class Arguments(unittest.TestCase):
    def test_group_and_short_left_out_and_told(self):
        starts = {"price": [1, -2, 3]}
        told = plainly(text=TEXT, starts=starts)
        self.assertEqual(answers(text=TEXT, starts=starts, lanes=3, dust=[1], picks=[2]), told)
        self.assertEqual(answers(text=TEXT, starts=starts, lanes=3, dust=[1], picks=[2], group=2), told)
        self.assertEqual(answers(text=TEXT, starts=starts, lanes=3, dust=[1], picks=[2], short=False), told)
        self.assertEqual(answers(TEXT, starts, 3, [1], [2], 4, True), told)

    def test_what_is_handed_in_stays(self):
        starts, dust, picks = {"price": [1, -2, 3], "total": [4]}, [1, 2], [3, 4]
        plainly(TEXT, starts)
        answers(TEXT, starts, 2, dust, picks)
        answers(TEXT, starts, 2, dust, picks, 4, False)
        self.assertEqual((starts, dust, picks), ({"price": [1, -2, 3], "total": [4]}, [1, 2], [3, 4]))
        self.assertEqual(list(starts), ["price", "total"])

    def test_what_was_told_first_stays(self):
        text = "row a 2\nrow b 2\nlet b 5"
        for ask in (plainly, lambda text, starts: answers(text, starts, 2, [], []),
                    lambda text, starts: answers(text, starts, 2, [], [], 1, False)):
            starts = {"a": [1, 2]}
            first = ask(text, starts)
            starts["a"][0] = 9
            starts["b"] = [8, 8]
            self.assertEqual(first, ([("a", [1, 2]), ("b", [5, 5])], None))
            second = ask(text, starts)
            second[0][0][1].clear()
            second[0].clear()
            self.assertEqual(first, ([("a", [1, 2]), ("b", [5, 5])], None))
            self.assertEqual(ask(text, starts)[0], [("a", [9, 2]), ("b", [5, 5])])

    def test_rows_lists_are_not_those_of_the_starts(self):
        starts = {"a": [1, 2]}
        told = plainly("row a 2", starts)
        told[0][0][1].append(5)
        self.assertEqual(starts, {"a": [1, 2]})


class ThePartsUsed(unittest.TestCase):
    """What is told is the same whatever group and short are, so they are seen by what is handed on alone."""

    WORDY = TEXT + "let price ( + ( shift names 1 2 ) ( * 3 4 ) )\n"

    def code_played(self, *more):
        with mock.patch("rowbreadth.answers.ran", wraps=ran) as play:
            answers(self.WORDY, {}, 3, [4], [5], *more)
        self.assertEqual(play.call_count, 1)
        self.assertEqual(play.call_args.args[3:], (3, [4], [5]))
        return play.call_args.args[0]

    def test_the_code_that_is_played(self):
        program = read(self.WORDY).program
        self.assertNotEqual(made(program), shortened(made(program)))
        self.assertEqual(self.code_played(), shortened(made(program, 0)))
        self.assertEqual(self.code_played(0, False), made(program, 0))
        for group in (1, 2, 4):
            self.assertEqual(self.code_played(group), shortened(made(program, group)))
            self.assertEqual(self.code_played(group, True), shortened(made(program, group)))
            self.assertEqual(self.code_played(group, False), made(program, group))


def name_of(row):
    return "r" + "abcdefghijkl"[row]


def words_of(form):
    if isinstance(form, Number):
        return str(form.number)
    if isinstance(form, Here):
        return "here"
    if isinstance(form, Cell):
        return name_of(form.row)
    if isinstance(form, Local):
        return "p" + "abcdef"[form.at]
    if isinstance(form, Shifted):
        return f"( shift {name_of(form.row)} {form.by} {form.other} )"
    if isinstance(form, At):
        return f"( at {name_of(form.row)} {words_of(form.place)} )"
    if isinstance(form, Pair):
        return f"( {form.sign} {words_of(form.left)} {words_of(form.right)} )"
    if isinstance(form, Choice):
        return f"( if {words_of(form.test)} {words_of(form.left)} {words_of(form.right)} )"
    assert isinstance(form, Call)
    return " ".join(["( f" + "abcdefgh"[form.at]] + [words_of(part) for part in form.handed] + [")"])


def lines_of(step):
    if isinstance(step, Till):
        inner = [line for part in step.steps for line in lines_of(part)]
        return [f"till {name_of(step.target)} most {step.most}", ""] + inner + ["end"]
    value, where = words_of(step.value), "" if step.test is None else " where " + words_of(step.test)
    if isinstance(step, Let):
        return [f"let {name_of(step.target)} {value}{where}"]
    if isinstance(step, Put):
        return [f"put {value} at {words_of(step.place)} in {name_of(step.target)} of {step.many}{where}"]
    if isinstance(step, Fold):
        return [f"fold {step.fold} {value} into {name_of(step.target)} of {step.many}{where}"]
    assert isinstance(step, Running)
    return ["", f"run {step.fold} {value} into {name_of(step.target)}{where}"]


def text_of(program):
    lines = [f"row {name_of(row)} {length}" for row, length in enumerate(program.lengths)]
    for at, (own, body) in enumerate(program.functions):
        names = "".join(f" p{'abcdef'[k]}" for k in range(own))
        lines.append(f"def f{'abcdefgh'[at]}{names} = {words_of(body)}")
    return "\n".join(lines + [line for step in program.steps for line in lines_of(step)])


class ManyTexts(Answering):
    def test_sown(self):
        seen = refused = 0
        for seed in range(150):
            sower = Sower(seed, (1, 1, 2, 3, 7))
            program = sower.program()
            text = text_of(program)
            if len(text) > 6000 or refusal_of(text) is not None:
                continue
            seen += 1
            starts = {name_of(row): [sower.number() for _ in range(length)]
                      for row, length in enumerate(program.lengths) if sower.by.randrange(4)}
            cells = []
            for row, length in enumerate(program.lengths):
                cells += starts.get(name_of(row), [0] * length)
            with self.subTest(seed=seed):
                told = self.both(text, starts, (sower.by.choice((1, 2, 5, 64)),))
                wanted = played(program, cells)
                self.assertEqual([number for _, numbers in told[0] for number in numbers], wanted[0])
                if wanted[1] is not None:
                    refused += 1
                    self.assertEqual(told[1], (read(text).lines[wanted[1][0]],) + wanted[1][1:])
                else:
                    self.assertIsNone(told[1])
        self.assertGreater(seen, 100)
        self.assertGreater(refused, 20)


if __name__ == "__main__":
    unittest.main()

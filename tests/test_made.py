"""The code that is made of programs: points [1], [12] and [29] to [31]."""

import unittest

from helper import FOLDS, HALF, SEAT_WORDS, SEATS_READ, SIGNS, Model, Sower, shown
from rowbreadth.forms import At, Call, Cell, Choice, Here, Local, Number, Pair, Shifted
from rowbreadth.looks import crossed, depth_of, size_of, uneven
from rowbreadth.machine import ran
from rowbreadth.needs import seats_for, seats_for_step
from rowbreadth.plain import played
from rowbreadth.stepmaker import made
from rowbreadth.steps import Fold, Let, Program, Put, Running, Till

GROUPS = (0, 1, 2, 4)
LANES = (1, 2, 3, 5, 64)
DUSTS = ([], [0], [1], [-1, 0, 7], [HALF - 1, 3, -HALF, 2, 0])
ONE, NOUGHT = Number(1), Number(0)
# Rows 0 and 1 of 7 cells, row 2 of one cell, row 3 of three.
LENGTHS = [7, 7, 1, 3]
CELLS = [4, -2, 0, 9, 1, 0, 6, 1, 2, 3, 4, 5, 6, 0, 8, 20, -30, 40]


def plus(left, right):
    return Pair("+", left, right)


def touches_lie_well(code, program, lanes, touches):
    """Each touch lies in its step's row, or in a slot that its save or bring names."""
    total = sum(program.lengths)
    for at, kind, address in touches:
        step = code[at]
        if step[0] in ("save", "bring"):
            slot = step[1] if step[0] == "save" else step[2]
            first, length = total + slot * 4 * lanes, 4 * lanes
        else:
            row = step[ROW_AT[step[0]]]
            first, length = sum(program.lengths[:row]), program.lengths[row]
        if not first <= address < first + length:
            return False
    return True


ROW_AT = {"load": 2, "spread": 2, "shift": 2, "gather": 3, "store": 1, "put": 1, "fold": 1, "running": 1}


def names_are_there(code, lengths):
    """Every seat, mask, slot and row that the code names is there, and mask 0 is laid by no step."""
    group = None
    for step in code:
        group = step[2] if step[0] == "begin" else group
        seats = [step[at] for at in SEATS_READ.get(step[0], [])] + ([step[1]] if step[0] in SEAT_WORDS else [])
        masks = [step[-1]] if seats else []
        masks += [step[4]] if step[0] == "pick" else []
        laid = [step[1]] if step[0] in ("choose", "other") else []
        slots = {"save": [step[-3]], "bring": [step[-2]]}.get(step[0], []) if seats else []
        rows = [step[ROW_AT[step[0]]]] if step[0] in ROW_AT else []
        for named, there in ((seats, range(8 // group) if group else []), (masks, range(16)), (laid, range(1, 16)),
                             (slots, range(60)), (rows, range(len(lengths)))):
            if any(at not in there for at in named):
                return False
    return True


def tills_of(steps, number=0):
    """The Tills within one another, as (most, number, those within); and the number behind the steps."""
    told = []
    for step in steps:
        if isinstance(step, Till):
            inner, behind = tills_of(step.steps, number + 1)
            told.append((step.most, number, inner))
            number = behind
        else:
            number += 1
    return told, number


def turns_in(code):
    levels = [[]]
    for step in code:
        if step[0] == "turns":
            levels.append([])
        if step[0] == "till":
            inner = levels.pop()
            levels[-1].append((step[1], step[2], inner))
    return levels[0]


class Making(unittest.TestCase):
    def code_is_well(self, program, group, code):
        self.assertIs(type(code), list)
        self.assertTrue(all(type(step) is tuple for step in code))
        for step in code:
            if step[0] == "begin":
                self.assertIn(step[2], (1, 2, 4) if group == 0 else (group,))
        self.assertEqual(turns_in(code), tills_of(program.steps)[0])
        self.assertTrue(names_are_there(code, program.lengths))

    def same(self, program, cells, groups=GROUPS, lanes=LANES):
        """What the machine tells is what the plain play tells, and a strict model finds the code sound."""
        told = played(program, cells)
        for group in groups:
            code = made(program, group)
            self.code_is_well(program, group, code)
            for at, many in enumerate(lanes):
                dust, picks = DUSTS[at % 5], DUSTS[(at + group) % 5]
                with self.subTest(group=group, lanes=many, dust=dust):
                    got = ran(code, program.lengths, cells, many, dust, picks)
                    self.assertEqual(got[:2], told)
                    self.assertEqual(got, Model(program.lengths, cells, many, dust).run(code))
                    self.assertTrue(touches_lie_well(code, program, many, got[2]))
        return told

    def step(self, *steps, functions=(), cells=CELLS, **more):
        return self.same(Program(LENGTHS, list(functions), list(steps)), cells, **more)


def each_step(value, test=None, place=Pair("rest", Here(), Number(3))):
    """A step of each kind over seven elements, none of which reads its target by value or test but as it may."""
    return [Let(1, value, test), Put(3, value, place, 7, test), Fold(2, "chain", value, 7, test),
            Running(1, "capped", value, test)]


class EachForm(Making):
    FUNCTIONS = [(0, Number(5)), (2, Pair("-", Local(1), Local(0))), (1, Choice(Local(0), Here(), Call(0, [])))]
    FORMS = (
        Number(0), Number(HALF - 1), Number(-HALF), Here(), Cell(0), Shifted(0, 0, 5), Shifted(0, -1, -HALF),
        Shifted(0, 3, 5), Shifted(0, 400, 5), Shifted(0, -400, 5), At(0, Here()), At(0, Number(6)),
        Choice(Cell(0), Here(), Number(9)), Choice(NOUGHT, Here(), Cell(0)), Choice(ONE, Here(), Cell(0)),
        Call(0, []), Call(1, [Here(), Cell(0)]), Call(2, [Cell(0)]), Call(2, [Call(1, [Number(3), Here()])]),
    )

    def test_as_value(self):
        for form in self.FORMS:
            for step in each_step(form) + each_step(form, Cell(0)):
                self.assertIsNone(self.step(step, functions=self.FUNCTIONS)[1])

    def test_as_test(self):
        for form in self.FORMS:
            for step in each_step(Here(), form):
                self.assertIsNone(self.step(step, functions=self.FUNCTIONS)[1])

    def test_as_place(self):
        for form in self.FORMS:
            for test in (None, Pair("<", Here(), Number(2))):
                self.step(Put(1, plus(Here(), Number(100)), form, 7, test), functions=self.FUNCTIONS)

    def test_rows_of_one_cell(self):
        for value in (Cell(2), Shifted(2, 0, 5), Shifted(2, -6, 5), At(2, NOUGHT), plus(Cell(2), Cell(0))):
            self.step(Let(1, value))
            self.step(Put(3, value, Number(2), 7, Cell(2)))
            self.step(Running(1, "sum", value, value))
        self.step(Let(2, plus(Cell(2), ONE)))
        self.step(Running(2, "sum", plus(Cell(2), ONE)))
        self.step(Fold(2, "sum", At(3, Here()), 3))

    def test_each_sign(self):
        for sign in SIGNS:
            for step in each_step(Pair(sign, Cell(0), Number(3))) + each_step(Pair(sign, Number(-7), plus(Here(), ONE))):
                self.assertIsNone(self.step(step, lanes=(1, 3, 64))[1])

    def test_each_fold(self):
        for fold in FOLDS:
            for test in (None, Cell(0), NOUGHT):
                self.step(Fold(2, fold, Cell(0), 7, test))
                self.step(Running(1, fold, Cell(0), test))
                self.step(Running(0, fold, Cell(0), test))
            self.step(Fold(2, fold, Pair("*", Here(), Number(3 * 10 ** 8)), 400), lanes=(1, 64))

    def test_a_target_that_is_read_by_cell(self):
        self.step(Let(0, plus(Cell(0), Cell(0)), Cell(0)))
        self.step(Running(0, "sum", Cell(0), Pair("<", Cell(0), Number(5))))

    def test_put_twice_into_one_cell(self):
        self.assertEqual(self.step(Put(3, Here(), Pair("/", Here(), Number(3)), 7))[0][-3:], [2, 5, 6])
        self.assertEqual(self.step(Put(2, Here(), NOUGHT, 400, Pair("<", Here(), Number(99))))[0][14], 98)


def refuses_at(place, kind):
    """A form that refuses at that one element, else tells 7."""
    distance = Pair("-", Here(), Number(place))
    refusing = {"/": Pair("/", Number(7), distance), "rest": Pair("rest", Number(7), distance),
                "below": At(0, Choice(distance, ONE, Number(-1))), "above": At(0, Choice(distance, ONE, Number(7))),
                "far": At(0, Choice(distance, ONE, Number(-HALF))), "one": At(2, Pair("=", distance, NOUGHT)),
                "within": Choice(distance, Number(7), Pair("/", ONE, NOUGHT)),
                "beside": Choice(Pair("=", distance, NOUGHT), At(0, Number(-5)), Number(7)),
                "in a call": Call(0, [distance]), "handed": Call(1, [Pair("/", ONE, distance)]),
                "test": Choice(Pair("rest", ONE, distance), Number(7), Number(7)),
                "left": Pair("+", Pair("/", ONE, distance), At(0, Number(99)))}[kind]
    return Pair("least", refusing, Number(7)) if kind != "left" else Choice(distance, Number(7), refusing)


KINDS = ("/", "rest", "below", "above", "far", "one", "within", "beside", "in a call", "handed", "test", "left")
OUTSIDE = ("below", "above", "far", "one", "beside")


class Refusals(Making):
    FUNCTIONS = [(1, Pair("/", Number(7), Local(0))), (1, Number(7))]

    def check(self, steps, number, place, kind):
        told = self.step(*steps, functions=self.FUNCTIONS, lanes=(1, 3))
        self.assertEqual(told[1], (number, place, "outside" if kind in OUTSIDE else "nought"))

    def test_of_the_value(self):
        for kind in KINDS:
            for place in (0, 3, 6):
                for step in each_step(refuses_at(place, kind)):
                    self.check([step], 0, place, kind)

    def test_of_the_test(self):
        for kind in KINDS:
            for place in (0, 3, 6):
                for step in each_step(Here(), refuses_at(place, kind)):
                    self.check([step], 0, place, kind)

    def test_of_the_place(self):
        for kind in KINDS:
            for place in (0, 3, 6):
                form = Pair("&", refuses_at(place, kind), ONE)
                self.check([Put(3, Here(), form, 7, Pair("<", Here(), Number(7)))], 0, place, kind)

    def test_a_place_outside_of_the_row(self):
        for number in (3, 4, -1, HALF - 1, -HALF):
            for place in (0, 3, 6):
                form = Choice(Pair("=", Here(), Number(place)), Number(number), ONE)
                self.check([Put(3, Here(), form, 7)], 0, place, "below")
        self.check([Put(3, Here(), Here(), 7)], 0, 3, "below")
        self.check([Put(2, Here(), Here(), 7)], 0, 1, "below")

    def test_what_is_passed_over_does_not_refuse(self):
        test = Pair("-", Here(), Number(3))
        for kind in KINDS:
            for step in each_step(refuses_at(3, kind), test):
                self.assertIsNone(self.step(step, functions=self.FUNCTIONS, lanes=(1, 3))[1])
        self.assertIsNone(self.step(Put(3, Here(), Pair("/", NOUGHT, test), 7, test))[1])

    def test_the_first_refusal_of_an_element_counts(self):
        nought, outside = Pair("/", ONE, NOUGHT), At(0, Number(-1))
        for first, second, kind in ((nought, outside, "/"), (outside, nought, "below")):
            self.check([Let(1, Pair("+", first, second))], 0, 0, kind)
            self.check([Let(1, second, first)], 0, 0, kind)
            self.check([Put(3, first, second, 2)], 0, 0, kind)
            self.check([Let(1, Choice(first, second, second))], 0, 0, kind)
            self.check([Let(1, Call(1, [first]), ONE), Let(1, second)], 0, 0, kind)
        self.check([Put(3, nought, Number(9), 2)], 0, 0, "/")

    def test_the_least_element_counts_whatever_refuses_it(self):
        for early, late in ((1, 2), (2, 5), (0, 6)):
            for step in each_step(refuses_at(early, "/"), refuses_at(late, "below")):
                self.check([step], 0, early, "/")
            for step in each_step(refuses_at(late, "/"), refuses_at(early, "below")):
                self.check([step], 0, early, "below")

    def test_steps_ahead_stay_done_and_those_behind_are_not_played(self):
        steps = [Let(0, Number(5)), Let(1, refuses_at(4, "rest")), Let(2, Number(8))]
        told = self.step(*steps, functions=self.FUNCTIONS)
        self.assertEqual(told, ([5] * 7 + [-1, -2, -1, 0] + CELLS[11:], (1, 4, "nought")))

    def test_over_four_hundred(self):
        for place in (0, 255, 256, 399):
            program = Program([400, 1], [], [Let(0, Pair("/", Number(7), Pair("-", Here(), Number(place))))])
            self.assertEqual(self.same(program, [3] * 401, lanes=(1, 64))[1], (0, place, "nought"))


def nest(many, join):
    form = Here()
    for at in range(many):
        form = join(form, at)
    return form


CELL_AND_NUMBERS = [Cell(0), Number(3), Here(), Shifted(0, 1, 2), Number(-4)]


def leaf(at):
    return CELL_AND_NUMBERS[at % 5]


class LargeForms(Making):
    SIX = [(6, Pair("-", Pair("*", Local(0), Local(5)), Local(3)))]

    def check(self, form, functions=(), size=None, depth=None, steps=None):
        self.assertLessEqual(size_of(form, list(functions)), 60)
        self.assertLessEqual(depth_of(form, list(functions)), 7)
        if size is not None:
            self.assertEqual(size_of(form, list(functions)), size)
        if depth is not None:
            self.assertEqual(depth_of(form, list(functions)), depth)
        place = Pair("rest", form, Number(3)) if size_of(form, list(functions)) <= 58 else Number(1)
        for step in each_step(form) + each_step(form, form, place):
            self.step(step, functions=functions, lanes=(1, 3))

    def test_right_and_left_nests(self):
        for sign in ("+", "-", "<"):
            self.check(nest(29, lambda form, at: Pair(sign, leaf(at), form)), size=59)
            self.check(nest(29, lambda form, at: Pair(sign, form, leaf(at))), size=59)
            self.check(nest(29, lambda form, at: Pair(sign, leaf(at), form) if at % 2 else Pair(sign, form, leaf(at))))
        whole = At(0, Pair("rest", nest(28, lambda form, at: Pair("-", leaf(at), form)), Number(7)))
        self.check(whole, size=60)

    def test_a_nest_of_ats(self):
        cells = [1, 2, 3, 4, 5, 6, 0] + CELLS[7:]
        form = nest(59, lambda form, at: At(0, form))
        self.assertEqual(size_of(form, []), 60)
        for step in each_step(form):
            self.assertIsNone(self.step(step, cells=cells)[1])

    def test_a_full_tree(self):
        def tree(deep, at):
            return leaf(at) if deep == 0 else Pair("-", tree(deep - 1, 2 * at), tree(deep - 1, 2 * at + 1))
        self.check(tree(4, 1), size=31)
        self.check(Pair("*", tree(4, 1), Pair("+", tree(3, 1), nest(5, lambda form, at: Pair("^", leaf(at), form)))))

    def test_choices_within_one_another(self):
        small = Pair("<", Here(), Number(4))
        self.check(nest(7, lambda form, at: Choice(small, form, leaf(at))), size=36, depth=7)
        self.check(nest(7, lambda form, at: Choice(small, leaf(at), form)), depth=7)
        self.check(nest(7, lambda form, at: Choice(form, leaf(at), leaf(at + 1))), depth=7)
        self.check(nest(7, lambda form, at: Choice(Pair("-", Here(), Number(at)), Pair("+", leaf(at), form), leaf(at))),
                   depth=7)
        self.check(nest(7, lambda form, at: Choice(leaf(at), leaf(at + 1), Pair("+", leaf(at), form))), depth=7)

    def test_choices_beside_one_another(self):
        def tree(deep, at):
            return leaf(at) if deep == 0 else Choice(*[tree(deep - 1, 3 * at + k) for k in range(3)])
        self.check(tree(3, 1), size=40, depth=3)
        choice = Choice(Cell(0), Here(), Number(2))
        self.check(nest(11, lambda form, at: Pair("+", choice, form)), depth=1)
        self.check(nest(11, lambda form, at: Pair("+", form, choice)), depth=1)
        self.check(nest(5, lambda form, at: Choice(Pair("-", Here(), Number(at)), Pair("*", form, leaf(at)), choice)),
                   depth=6)

    def test_calls_that_are_handed_six(self):
        self.check(Call(0, [leaf(at) for at in range(6)]), self.SIX, size=12)
        self.check(Call(0, [nest(3, lambda form, k: Pair("-", leaf(at + k), form)) for at in range(6)]), self.SIX, size=48)
        self.check(Call(0, [Call(0, [leaf(at + k) for k in range(6)]) if at % 2 else leaf(at) for at in range(6)]), self.SIX)

    def test_calls_of_calls_of_calls(self):
        functions = [(6, Pair("-", Local(0), Local(5)))]
        for at in range(7):
            functions.append((6, Call(at, [Local((k + at) % 6) for k in range(6)])))
        self.check(Call(7, [leaf(at) for at in range(6)]), functions, size=59)
        functions = [(2, Pair("-", Local(0), Local(1)))]
        for at in range(3):
            functions.append((2, Call(at, [Call(at, [Local(1), Local(0)]) if at == 0 else Local(0), Local(1)])))
        self.check(Pair("*", Call(3, [Here(), Cell(0)]), Call(2, [Cell(0), Here()])), functions)

    def test_calls_with_choices_in_their_bodies(self):
        functions = [(1, Choice(Local(0), Pair("+", Local(0), ONE), Number(9)))]
        for at in range(3):
            functions.append((1, Choice(Pair("<", Here(), Number(at + 2)), Call(at, [Local(0)]), Local(0))))
        self.check(Call(3, [Cell(0)]), functions, depth=4)
        self.check(nest(3, lambda form, at: Choice(Here(), form, Call(3, [leaf(at)])) if at == 0
                        else Choice(form, leaf(at), Number(at))), functions)

    def test_a_put_whose_value_and_place_are_large(self):
        right = nest(28, lambda form, at: Pair("-", leaf(at), form))
        place = Pair("rest", right, Number(3))
        for value in (right, nest(7, lambda form, at: Choice(leaf(at), form, Here())), Here()):
            for where in (place, Pair("rest", nest(6, lambda form, at: Choice(leaf(at), form, Here())), Number(3)), ONE):
                self.step(Put(3, value, where, 7, Pair("+", Cell(0), right)), lanes=(2,))
        self.step(Put(3, Call(0, [leaf(at) for at in range(6)]), Pair("rest", Call(0, [leaf(at) for at in range(6)]),
                                                                     Number(3)), 7), functions=self.SIX)


class Tills(Making):
    def test_empty_ones(self):
        self.assertEqual(self.step(Till(0, 5, []))[1], None)
        self.assertEqual(self.step(Till(1, 5, []), cells=[0] * 18)[1], (0, 5, "endless"))

    def test_each_length_of_the_target(self):
        for many in (1, 2, 3, 63, 64, 65, 256, 400):
            for place in (0, many - 1):
                cells = [0] * many
                program = Program([many], [], [Till(0, 1, [])])
                self.assertEqual(self.same(program, cells, lanes=(1, 64))[1], (0, 1, "endless"))
                cells[place] = -HALF
                self.assertIsNone(self.same(program, cells, lanes=(1, 64))[1])

    def counting(self, most, wanted):
        # Row 0 counts; row 1 is set where it has counted far enough.
        return Program([1, 1], [], [Till(1, most, [Let(0, plus(Cell(0), ONE)),
                                                   Let(1, Pair("=", Cell(0), Number(wanted)))])])

    def test_first_last_and_one_turn_too_many(self):
        for most, wanted, refusal in ((1, 1, None), (5, 1, None), (5, 5, None), (5, 6, (0, 5, "endless"))):
            self.assertEqual(self.same(self.counting(most, wanted), [0, 0])[1], refusal)
        self.assertEqual(self.same(self.counting(1000, 1000), [0, 0], (0,), (3,)), ([1000, 1], None))
        self.assertEqual(self.same(self.counting(1000, 1001), [0, 0], (4,), (1,))[1], (0, 1000, "endless"))

    def test_within_one_another(self):
        count = [Let(2, plus(Cell(2), ONE))]
        third = Till(2, 4, count + [Let(0, Pair("=", Cell(2), Number(6)))])
        program = [Let(2, NOUGHT), Till(0, 3, [Let(1, Here()), Till(1, 2, [third, Let(3, Here())])]), Let(3, Number(4)),
                   Till(3, 1, [])]
        self.step(*program, cells=[0] * 18)
        self.step(*program)
        outer = Till(0, 2, [Till(2, 3, [Let(2, Shifted(3, 0, 0))])])
        self.assertEqual(self.step(outer, cells=[0] * 18)[1], (1, 3, "endless"))

    def test_the_inner_sign_is_lowered_for_the_outer_look(self):
        program = [Till(1, 3, [Till(2, 2, [Let(2, ONE)])])]
        self.assertEqual(self.step(*program, cells=[0] * 18)[1], (0, 3, "endless"))

    def test_refusals_within(self):
        program = [Let(0, ONE), Till(1, 4, [Let(2, plus(Cell(2), ONE)),
                                            Fold(2, "sum", Pair("/", Here(), Pair("-", At(0, NOUGHT), Here())), 3)])]
        self.assertEqual(self.step(*program, cells=[0] * 18)[1], (3, 1, "nought"))


class Bounds(Making):
    def test_no_steps_and_no_rows(self):
        self.assertEqual(made(Program([], [], [])), [])
        self.assertEqual(made(Program([3], [], []), 2), [])
        self.same(Program([3], [], []), [1, 2, 3])

    def test_twelve_rows_of_four_hundred(self):
        steps = [Let(row, plus(Cell((row + 1) % 12), Here())) for row in range(12)]
        self.same(Program([400] * 12, [], steps), [at % 17 for at in range(4800)], lanes=(1, 64))

    def test_forty_steps(self):
        steps = []
        for at in range(10):
            steps += each_step(plus(Cell(0), Number(at)))
        told = self.step(*steps[:39], Let(0, Pair("/", ONE, Cell(2)), NOUGHT), lanes=(1, 3))
        self.assertIsNone(told[1])
        self.assertEqual(self.step(*steps[:39], Let(0, Pair("/", ONE, NOUGHT)), lanes=(3,))[1], (39, 0, "nought"))

    def test_each_number_of_lanes(self):
        program = Program(LENGTHS, [], each_step(Pair("-", Cell(0), Here()), Cell(0)))
        self.same(program, CELLS, lanes=range(1, 65))

    def test_many_below_at_and_above_a_strips_width(self):
        for many in (1, 3, 4, 5, 8, 9, 16, 17, 400):
            self.same(Program([many, 1], [], [Let(0, plus(Cell(0), Here())), Fold(1, "chain", Cell(0), many)]),
                      list(range(many + 1)), lanes=(1, 4, 8))


class ManyPrograms(Making):
    def is_sound(self, program):
        for form in [body for _, body in program.functions]:
            self.assertLessEqual(size_of(form, program.functions), 60)
        steps = list(program.steps)
        while steps:
            step = steps.pop()
            self.assertFalse(uneven(step, program.lengths) or crossed(step))
            steps += step.steps if isinstance(step, Till) else []

    def test_sown(self):
        kinds = {}
        for seed in range(200):
            sower = Sower(seed)
            program, cells = sower.program(), sower.cells()
            self.is_sound(program)
            with self.subTest(seed=seed):
                told = self.same(program, cells, lanes=(sower.by.choice(LANES), sower.by.choice(LANES)))
            kind = told[1] and told[1][2]
            kinds[kind] = kinds.get(kind, 0) + 1
        self.assertEqual(set(kinds), {None, "nought", "outside", "endless"})
        self.assertGreater(kinds[None], 120)

    def test_sown_large(self):
        for seed in range(1000, 1060):
            sower = Sower(seed, (1, 5, 9), (20, 40, 60))
            with self.subTest(seed=seed):
                self.same(sower.program(), sower.cells(), lanes=(2, 64))

    def test_the_dust_and_the_picks_show_nowhere(self):
        for seed in range(2000, 2030):
            sower = Sower(seed)
            program, cells = sower.program(), sower.cells()
            for group in GROUPS:
                code = made(program, group)
                told = [ran(code, program.lengths, cells, 3, dust, picks) for dust in DUSTS for picks in DUSTS]
                self.assertEqual(told[1:], told[:-1])


class Named(unittest.TestCase):
    def test_what_is_not_there_is_seen(self):
        for step in (("here", 8, 0), ("here", 0, 16), ("op", 0, "+", 8, 0, 0), ("choose", 0, 0, 0), ("choose", 16, 0, 0),
                     ("save", 60, 0, 0), ("bring", 0, 60, 0), ("load", 0, 2, 0), ("put", 2, 0, 0, 0), ("copy", 0, -1, 0),
                     ("pick", 0, 0, 0, 16, 0)):
            self.assertFalse(names_are_there([("begin", 5, 1), step, ("next",)], [5, 5]))
        self.assertTrue(names_are_there([("begin", 5, 4), ("here", 1, 15), ("save", 59, 1, 0), ("next",)], [5, 5]))
        self.assertFalse(names_are_there([("begin", 5, 4), ("here", 2, 15), ("next",)], [5, 5]))


class OwnChoice(Making):
    def groups(self, *steps):
        return [step[2] for step in made(Program(LENGTHS, LargeForms.SIX, list(steps))) if step[0] == "begin"]

    def words(self, group, *steps):
        return [step[0] for step in made(Program(LENGTHS, LargeForms.SIX, list(steps)), group)]

    def test_the_widest_that_has_seats_enough(self):
        deep = [nest(many, lambda form, at: Pair("-", leaf(at), form)) for many in range(10)]
        self.assertEqual([self.groups(Let(1, form))[0] for form in deep], [4, 4, 2, 2, 1, 1, 1, 1, 1, 1])
        self.assertEqual(self.groups(Let(1, Here(), deep[3])), [2])
        self.assertEqual(self.groups(Put(3, Here(), deep[1], 7)), [2])
        self.assertEqual(self.groups(Put(3, deep[1], Here(), 7)), [4])
        self.assertEqual(self.groups(Till(0, 1, [Let(1, deep[4])])), [1, 4])

    def test_nothing_is_put_by_where_there_are_seats_enough(self):
        for many in range(8):
            form = nest(many, lambda form, at: Pair("-", leaf(at), form))
            self.assertEqual(seats_for(form, []), many + 1)
            self.assertNotIn("save", self.words(0, Let(1, form)))
            for group in (1, 2, 4):
                self.assertEqual("save" in self.words(group, Let(1, form)), many + 1 > 8 // group)
        self.assertIn("save", self.words(0, Let(1, nest(8, lambda form, at: Pair("-", leaf(at), form)))))
        self.assertNotIn("save", self.words(4, Let(1, nest(29, lambda form, at: Pair("-", form, leaf(at))))))

    def test_seats_for_each_form(self):
        two = Pair("+", Here(), Here())
        three = Pair("+", Here(), two)
        for form in CELL_AND_NUMBERS + [Local(0), At(0, Here()), Call(0, [])]:
            self.assertEqual(seats_for(form, [(0, Number(5))]), 1)
        functions = [(0, Number(5)), (1, three)]
        for form, seats in ((two, 2), (three, 3), (At(0, three), 3), (Choice(three, Here(), Here()), 3),
                            (Choice(Here(), three, Here()), 3), (Choice(Here(), Here(), three), 4),
                            (Choice(Here(), Here(), Here()), 2), (Call(1, [Here()]), 3), (Call(1, [Pair("+", Here(), three)]), 4),
                            (Pair("+", three, three), 4), (Pair("+", three, Here()), 3)):
            self.assertEqual(seats_for(form, functions), seats)
        self.assertEqual(seats_for_step(Put(3, three, Here(), 7), []), 3)
        self.assertEqual(seats_for_step(Put(3, Here(), three, 7), []), 4)
        self.assertEqual(seats_for_step(Put(3, Here(), three, 7, Pair("+", Here(), Pair("+", Here(), three))), []), 5)
        self.assertEqual(seats_for_step(Let(1, three, two), []), 3)
        self.assertEqual(seats_for_step(Let(1, two, three), []), 3)

    def test_trimmed_only_where_an_element_may_refuse(self):
        self.assertEqual(self.words(1, Let(1, Here())), ["begin", "here", "store", "next"])
        for form in (At(0, Here()), Pair("/", Here(), ONE), Pair("rest", Here(), ONE)):
            for step in each_step(form) + each_step(Here(), form):
                self.assertEqual(self.words(0, step)[-4::2], ["trim", "stop"])
        self.assertEqual(self.words(0, Put(3, Here(), ONE, 7))[-5:], ["reach", "trim", "put", "stop", "next"])


class HandedIn(unittest.TestCase):
    def test_the_program_stays(self):
        for seed in range(20):
            program = Sower(seed).program()
            before = shown(program)
            for group in GROUPS:
                made(program, group)
            self.assertEqual(shown(program), before)

    def test_what_is_told_is_the_askers_own(self):
        program = Program(LENGTHS, [], [Let(0, Here()), Till(0, 2, [Let(1, Cell(0))])])
        first = made(program)
        behind = list(first)
        second = made(program)
        self.assertEqual(second, behind)
        second.clear()
        program.steps.clear()
        program.lengths[0] = 5
        self.assertEqual(first, behind)

    def test_by_its_arguments_names_and_without_a_group(self):
        program = Program(LENGTHS, [], [Let(0, Pair("+", Here(), Pair("+", Here(), Here())))])
        self.assertEqual(made(program=program, group=0), made(program))
        self.assertNotEqual(made(program=program, group=1), made(program, 4))


if __name__ == "__main__":
    unittest.main()

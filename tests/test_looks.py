import unittest

from rowbreadth.forms import At, Call, Cell, Choice, Here, Local, Number, Pair, Shifted
from rowbreadth.looks import crossed, depth_of, size_of, uneven
from rowbreadth.steps import Fold, Let, Put, Running, Till

ONE = Number(1)
LEAVES = [Number(1), Here(), Cell(0), Shifted(0, 1, 2), Local(0)]
# Rows of 3 cells, of one, of 3 and of 4.
LENGTHS = [3, 1, 3, 4]
FOLDS = ["sum", "product", "least", "most", "both", "either", "odd", "chain", "capped"]


def choices(many, inner=ONE):
    form = inner
    for _ in range(many):
        form = Choice(ONE, form, ONE)
    return form


def around(form):
    # The form at each place where a form may stand within another one.
    return [
        form, At(1, form), Pair("+", form, ONE), Pair("+", ONE, form), Choice(form, ONE, ONE), Choice(ONE, form, ONE),
        Choice(ONE, ONE, form), Call(0, [form, ONE]), Call(0, [ONE, form]),
        Pair("+", ONE, At(1, Choice(ONE, ONE, Call(0, [Here(), Pair("*", form, ONE)])))),
    ]


def lets(form, target):
    return [Let(target, form), Let(target, ONE, form)]


def puts(form, target, many):
    return [Put(target, form, ONE, many), Put(target, ONE, form, many), Put(target, ONE, ONE, many, form)]


def folds(form, target, many):
    return [Fold(target, "sum", form, many), Fold(target, "sum", ONE, many, form)]


def runnings(form, target):
    return [Running(target, "sum", form), Running(target, "sum", ONE, form)]


class Sizes(unittest.TestCase):
    def test_forms_without_forms(self):
        for form in LEAVES:
            self.assertEqual(size_of(form, []), 1)

    def test_forms_with_forms(self):
        for form in LEAVES:
            self.assertEqual(size_of(At(0, form), []), 2)
            self.assertEqual(size_of(Pair("+", form, form), []), 3)
            self.assertEqual(size_of(Choice(form, form, form), []), 4)

    def test_each_form_within_counts(self):
        pair = Pair("+", ONE, ONE)
        self.assertEqual(size_of(At(0, pair), []), 4)
        self.assertEqual(size_of(Pair("+", pair, ONE), []), 5)
        self.assertEqual(size_of(Pair("+", ONE, pair), []), 5)
        self.assertEqual(size_of(Choice(pair, ONE, ONE), []), 6)
        self.assertEqual(size_of(Choice(ONE, pair, ONE), []), 6)
        self.assertEqual(size_of(Choice(ONE, ONE, pair), []), 6)
        self.assertEqual(size_of(At(0, Choice(pair, At(0, pair), Pair("*", pair, pair))), []), 2 + 3 + 4 + 7)

    def test_calls_with_their_bodies(self):
        functions = [(0, ONE), (2, Pair("+", Local(0), Local(1))), (1, Choice(Local(0), ONE, ONE))]
        pair = Pair("+", ONE, ONE)
        self.assertEqual(size_of(Call(0, []), functions), 2)
        self.assertEqual(size_of(Call(1, [ONE, ONE]), functions), 1 + 2 + 3)
        self.assertEqual(size_of(Call(1, [pair, ONE]), functions), 1 + 4 + 3)
        self.assertEqual(size_of(Call(2, [pair]), functions), 1 + 3 + 4)
        self.assertEqual(size_of(Pair("+", Call(0, []), Call(2, [Call(0, [])])), functions), 1 + 2 + 1 + 2 + 4)

    def test_bodies_of_bodies(self):
        functions = [(0, Pair("+", ONE, ONE)), (1, Pair("*", Call(0, []), Local(0))), (0, Call(1, [Call(0, [])]))]
        self.assertEqual([size_of(body, functions) for _, body in functions], [3, 6, 11])
        self.assertEqual(size_of(Call(2, []), functions), 12)

    def test_at_sixty_and_one_more(self):
        form = ONE
        for _ in range(29):
            form = Pair("+", form, ONE)
        self.assertEqual(size_of(form, []), 59)
        self.assertEqual(size_of(At(0, form), []), 60)
        self.assertEqual(size_of(Pair("+", ONE, form), []), 61)

    def test_bodies_that_double_at_each_function(self):
        functions = [(0, ONE)]
        for at in range(60):
            functions.append((0, Pair("+", Call(at, []), Call(at, []))))
        sizes = [1]
        for _ in range(60):
            sizes.append(1 + 2 * (1 + sizes[-1]))
        self.assertEqual(size_of(functions[60][1], functions), sizes[60])

    def test_what_is_handed_in_stays(self):
        body = Pair("+", Local(0), ONE)
        functions = [(1, body)]
        call = Call(0, [ONE])
        size_of(call, functions)
        depth_of(call, functions)
        self.assertEqual((functions, call.handed, call.at), ([(1, body)], [ONE], 0))


class Depths(unittest.TestCase):
    def test_without_choices(self):
        for form in LEAVES + [At(0, ONE), Pair("+", ONE, ONE), Pair("+", At(0, ONE), Pair("*", ONE, ONE))]:
            self.assertEqual(depth_of(form, []), 0)
        self.assertEqual(depth_of(Call(0, []), [(0, ONE)]), 0)

    def test_choices_within_one_another(self):
        for many in (1, 2, 7, 8):
            self.assertEqual(depth_of(choices(many), []), many)

    def test_by_each_of_its_three_forms(self):
        two = choices(2)
        self.assertEqual(depth_of(Choice(two, ONE, ONE), []), 3)
        self.assertEqual(depth_of(Choice(ONE, two, ONE), []), 3)
        self.assertEqual(depth_of(Choice(ONE, ONE, two), []), 3)

    def test_the_greatest_and_no_sum(self):
        self.assertEqual(depth_of(Choice(choices(1), choices(3), choices(2)), []), 4)
        self.assertEqual(depth_of(Pair("+", choices(2), choices(3)), []), 3)
        self.assertEqual(depth_of(Pair("+", choices(3), choices(2)), []), 3)

    def test_through_other_forms(self):
        self.assertEqual(depth_of(At(0, choices(2)), []), 2)
        self.assertEqual(depth_of(Choice(At(0, Pair("+", ONE, choices(2))), ONE, ONE), []), 3)

    def test_calls(self):
        functions = [(1, ONE), (1, choices(2)), (2, Pair("+", Local(0), Call(1, [Local(1)])))]
        self.assertEqual(depth_of(Call(0, [choices(3)]), functions), 3)
        self.assertEqual(depth_of(Call(1, [ONE]), functions), 2)
        self.assertEqual(depth_of(Call(1, [choices(1)]), functions), 2)
        self.assertEqual(depth_of(Call(1, [choices(3)]), functions), 3)
        self.assertEqual(depth_of(Call(2, [ONE, choices(4)]), functions), 4)
        self.assertEqual(depth_of(Call(2, [ONE, ONE]), functions), 2)
        self.assertEqual(depth_of(Choice(ONE, Call(2, [ONE, ONE]), ONE), functions), 3)

    def test_bodies_that_double_at_each_function(self):
        functions = [(0, ONE)]
        for at in range(60):
            functions.append((0, Choice(ONE, Call(at, []), Call(at, []))))
        self.assertEqual(depth_of(functions[60][1], functions), 60)


class Evenness(unittest.TestCase):
    def steps_of(self, form):
        # The steps of three elements with the form at each of their places.
        return lets(form, 0) + puts(form, 1, 3) + folds(form, 1, 3) + runnings(form, 0)

    def test_steps_without_cells(self):
        for form in around(Here()) + around(Shifted(3, 1, 0)) + around(At(3, ONE)):
            for step in self.steps_of(form):
                self.assertIs(uneven(step, LENGTHS), False)

    def test_cells_of_as_many_or_of_one(self):
        for row in (0, 1, 2):
            for form in around(Cell(row)):
                for step in self.steps_of(form):
                    self.assertIs(uneven(step, LENGTHS), False)

    def test_cells_of_another_number(self):
        for form in around(Cell(3)):
            for step in self.steps_of(form):
                self.assertIs(uneven(step, LENGTHS), True)

    def test_fewer_cells_are_uneven_too(self):
        for step in lets(Cell(0), 3) + puts(Cell(0), 1, 4) + folds(Cell(0), 1, 4) + runnings(Cell(0), 3):
            self.assertIs(uneven(step, LENGTHS), True)

    def test_a_step_of_one_element(self):
        for step in lets(Cell(0), 1) + puts(Cell(0), 1, 1) + folds(Cell(0), 1, 1) + runnings(Cell(0), 1):
            self.assertIs(uneven(step, LENGTHS), True)
        for step in lets(Cell(1), 1) + puts(Cell(1), 0, 1) + folds(Cell(1), 1, 1) + runnings(Cell(1), 1):
            self.assertIs(uneven(step, LENGTHS), False)

    def test_a_put_goes_by_its_many_and_not_by_its_target(self):
        self.assertIs(uneven(Put(3, Cell(0), Here(), 3), LENGTHS), False)
        self.assertIs(uneven(Put(3, Cell(3), Here(), 3), LENGTHS), True)
        self.assertIs(uneven(Put(0, ONE, Here(), 4), LENGTHS), False)

    def test_a_fold_into_more_than_one_cell(self):
        for fold in FOLDS:
            self.assertIs(uneven(Fold(0, fold, ONE, 3), LENGTHS), True)
            self.assertIs(uneven(Fold(3, fold, Cell(0), 3), LENGTHS), True)
            self.assertIs(uneven(Fold(1, fold, Cell(0), 3), LENGTHS), False)
        self.assertIs(uneven(Fold(0, "sum", ONE, 1), LENGTHS), True)

    def test_two_forms_one_of_them_uneven(self):
        self.assertIs(uneven(Let(0, Cell(0), Cell(3)), LENGTHS), True)
        self.assertIs(uneven(Put(1, Cell(0), Cell(3), 3, Cell(2)), LENGTHS), True)
        self.assertIs(uneven(Put(1, Cell(0), Cell(1), 3, Cell(2)), LENGTHS), False)

    def test_a_till(self):
        bad = Let(0, Cell(3))
        for target in range(4):
            self.assertIs(uneven(Till(target, 1, []), LENGTHS), False)
            self.assertIs(uneven(Till(target, 1, [bad]), LENGTHS), False)

    def test_lengths_stay(self):
        lengths = list(LENGTHS)
        for step in self.steps_of(Cell(3)):
            uneven(step, lengths)
        self.assertEqual(lengths, LENGTHS)


class Crossing(unittest.TestCase):
    def steps_of(self, form, target):
        return lets(form, target) + puts(form, target, 3) + folds(form, target, 3) + runnings(form, target)

    def test_shifted_and_at_of_the_target(self):
        for bad in (Shifted(2, 1, 0), Shifted(2, 0, 0), At(2, ONE)):
            for form in around(bad):
                for step in self.steps_of(form, 2):
                    self.assertIs(crossed(step), True)

    def test_shifted_at_and_cell_of_other_rows(self):
        for good in (Shifted(0, 1, 0), At(3, ONE), Cell(0), Here(), Number(2), Local(2)):
            for form in around(good):
                for step in self.steps_of(form, 2):
                    self.assertIs(crossed(step), False)

    def test_a_cell_of_the_target(self):
        for form in around(Cell(2)):
            for step in lets(form, 2) + runnings(form, 2):
                self.assertIs(crossed(step), False)
            for step in puts(form, 2, 3) + folds(form, 2, 3):
                self.assertIs(crossed(step), True)

    def test_row_nought_is_a_row_as_any(self):
        for step in self.steps_of(Shifted(0, 1, 0), 0) + puts(Cell(0), 0, 3) + folds(Cell(0), 0, 3):
            self.assertIs(crossed(step), True)
        self.assertIs(crossed(Let(0, Cell(0), Cell(0))), False)

    def test_the_place_of_an_at_is_looked_at_too(self):
        self.assertIs(crossed(Let(2, At(0, At(2, ONE)))), True)
        self.assertIs(crossed(Put(2, At(0, Cell(2)), ONE, 3)), True)

    def test_a_call_is_no_row(self):
        self.assertIs(crossed(Let(0, Call(0, [ONE]))), False)

    def test_a_till(self):
        self.assertIs(crossed(Till(0, 1, [])), False)
        self.assertIs(crossed(Till(0, 1, [Let(0, At(0, ONE))])), False)


if __name__ == "__main__":
    unittest.main()

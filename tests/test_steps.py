import unittest

from rowbreadth import steps
from rowbreadth.forms import Here, Number
from rowbreadth.steps import Fold, Let, Program, Put, Running, Step, Till, count_of

NAMES = ["Let", "Put", "Fold", "Running", "Till"]
ONE, TWO, THREE = Number(1), Number(2), Number(3)


class Kinds(unittest.TestCase):
    def test_each_stands_under_step_and_under_no_other(self):
        for name in NAMES:
            found = getattr(steps, name)
            self.assertTrue(issubclass(found, Step))
            for other in NAMES:
                self.assertEqual(issubclass(found, getattr(steps, other)), name == other)
        self.assertFalse(issubclass(Program, Step))

    def test_fields_by_order(self):
        inner = Let(0, ONE)
        rows = [
            (Let(2, ONE, TWO), {"target": 2, "value": ONE, "test": TWO}),
            (Put(2, ONE, TWO, 7, THREE), {"target": 2, "value": ONE, "place": TWO, "many": 7, "test": THREE}),
            (Fold(2, "odd", ONE, 7, TWO), {"target": 2, "fold": "odd", "value": ONE, "many": 7, "test": TWO}),
            (Running(2, "odd", ONE, TWO), {"target": 2, "fold": "odd", "value": ONE, "test": TWO}),
            (Till(2, 1000, [inner]), {"target": 2, "most": 1000, "steps": [inner]}),
            (Program([1], [(0, ONE)], [inner]), {"lengths": [1], "functions": [(0, ONE)], "steps": [inner]}),
        ]
        for made, fields in rows:
            for name, value in fields.items():
                with self.subTest(made=type(made).__name__, field=name):
                    self.assertEqual(getattr(made, name), value)

    def test_fields_by_their_arguments_names(self):
        self.assertIs(Let(test=ONE, value=TWO, target=0).test, ONE)
        self.assertIs(Put(test=ONE, many=3, place=TWO, value=THREE, target=0).place, TWO)
        self.assertEqual(Fold(test=ONE, many=3, value=TWO, fold="sum", target=0).many, 3)
        self.assertEqual(Running(test=ONE, value=TWO, fold="sum", target=0).fold, "sum")
        self.assertEqual(Till(steps=[], most=4, target=0).most, 4)
        self.assertEqual(Program(steps=[], functions=[], lengths=[4]).lengths, [4])

    def test_no_test_is_none(self):
        for step in (Let(0, ONE), Put(0, ONE, TWO, 1), Fold(0, "sum", ONE, 1), Running(0, "sum", ONE)):
            self.assertIsNone(step.test)


class Many(unittest.TestCase):
    def test_by_the_target(self):
        lengths = [3, 1, 400]
        for row, length in enumerate(lengths):
            self.assertEqual(Let(row, ONE).many_of(lengths), length)
            self.assertEqual(Running(row, "sum", ONE).many_of(lengths), length)

    def test_by_many(self):
        lengths = [3, 1, 400]
        for row in range(3):
            for many in (1, 2, 400):
                self.assertEqual(Put(row, ONE, Here(), many).many_of(lengths), many)
                self.assertEqual(Fold(row, "sum", ONE, many).many_of(lengths), many)

    def test_lengths_stay(self):
        lengths = [3, 1]
        for step in (Let(0, ONE), Put(0, ONE, TWO, 1), Fold(0, "sum", ONE, 1), Running(0, "sum", ONE)):
            step.many_of(lengths)
        self.assertEqual(lengths, [3, 1])


class Copies(unittest.TestCase):
    def test_a_till_keeps_a_copy(self):
        first, second = Let(0, ONE), Let(0, TWO)
        handed = [first]
        till = Till(0, 3, handed)
        handed.append(second)
        handed[0] = second
        self.assertEqual(till.steps, [first])
        till.steps.append(second)
        self.assertEqual(handed, [second, second])

    def test_a_program_keeps_copies(self):
        first, second = Let(0, ONE), Let(0, TWO)
        lengths, functions, handed = [3], [(0, ONE)], [first]
        program = Program(lengths, functions, handed)
        lengths[0] = 9
        lengths.append(1)
        functions[0] = (0, TWO)
        functions.append((1, THREE))
        handed[0] = second
        handed.append(second)
        self.assertEqual((program.lengths, program.functions, program.steps), ([3], [(0, ONE)], [first]))

    def test_a_programs_own_lists_are_not_those_handed_in(self):
        lengths, functions, handed = [3], [(0, ONE)], [Let(0, ONE)]
        program = Program(lengths, functions, handed)
        program.lengths.append(1)
        program.functions.append((0, TWO))
        program.steps.clear()
        self.assertEqual((lengths, functions, len(handed)), ([3], [(0, ONE)], 1))

    def test_two_of_one_list_do_not_share_it(self):
        handed = [Let(0, ONE)]
        left, right = Till(0, 1, handed), Till(0, 1, handed)
        left.steps.clear()
        self.assertEqual(right.steps, handed)


class Counts(unittest.TestCase):
    def test_none(self):
        self.assertEqual(count_of([]), 0)

    def test_steps_side_by_side(self):
        row = [Let(0, ONE), Put(0, ONE, TWO, 1), Fold(0, "sum", ONE, 9), Running(0, "sum", ONE)]
        for many in range(5):
            self.assertEqual(count_of(row[:many]), many)

    def test_a_till_counts_with_its_own(self):
        let = Let(0, ONE)
        self.assertEqual(count_of([Till(0, 1, [])]), 1)
        self.assertEqual(count_of([Till(0, 1, [let])]), 2)
        self.assertEqual(count_of([let, Till(0, 1, [let, let]), let]), 5)

    def test_tills_within_one_another(self):
        let = Let(0, ONE)
        inner = Till(0, 1, [let, let])
        middle = Till(0, 1, [inner, let, inner])
        self.assertEqual(count_of([Till(0, 1, [let, middle]), middle, let]), 2 + 8 + 8 + 1)

    def test_the_list_stays(self):
        let = Let(0, ONE)
        row = [Till(0, 1, [let]), let]
        told = list(row)
        count_of(row)
        self.assertEqual(row, told)
        self.assertEqual(row[0].steps, [let])


if __name__ == "__main__":
    unittest.main()

import unittest

from rowbreadth import forms
from rowbreadth.errors import ByNought, Outside
from rowbreadth.forms import At, Call, Cell, Choice, Form, Here, Local, Number, Pair, Shifted, Spot

HALF = 2 ** 63
LENGTHS = [3, 1, 4]
CELLS = [10, 11, 12, 20, 30, 31, 32, 33]
BY_NOUGHT = Pair("/", Number(1), Number(0))
OUTSIDE = At(0, Number(3))


def spot_at(place, own=(), functions=()):
    return Spot(list(LENGTHS), list(functions), list(CELLS), place, list(own))


def worths(form, places):
    return [form.worth(spot_at(place)) for place in places]


class Asked(Form):
    # Tells in a list which form was asked, and when.
    def __init__(self, notes, name, number):
        self.notes = notes
        self.name = name
        self.number = number

    def worth(self, spot):
        self.notes.append(self.name)
        return self.number


class Kinds(unittest.TestCase):
    def test_each_stands_under_form_and_under_no_other(self):
        names = ["Number", "Here", "Cell", "Shifted", "Local", "At", "Pair", "Choice", "Call"]
        for name in names:
            found = getattr(forms, name)
            self.assertTrue(issubclass(found, Form))
            for other in names:
                self.assertEqual(issubclass(found, getattr(forms, other)), name == other)
        self.assertFalse(issubclass(Spot, Form))

    def test_fields(self):
        one, two, three = Number(1), Here(), Cell(2)
        rows = [
            (Number(-5), {"number": -5}),
            (Cell(2), {"row": 2}),
            (Shifted(1, -400, 9), {"row": 1, "by": -400, "other": 9}),
            (Local(5), {"at": 5}),
            (At(2, one), {"row": 2, "place": one}),
            (Pair("rest", one, two), {"sign": "rest", "left": one, "right": two}),
            (Choice(one, two, three), {"test": one, "left": two, "right": three}),
            (Call(1, [one, two]), {"at": 1, "handed": [one, two]}),
        ]
        for form, fields in rows:
            for name, value in fields.items():
                with self.subTest(form=type(form).__name__, field=name):
                    self.assertEqual(getattr(form, name), value)

    def test_fields_by_their_arguments_names(self):
        one, two = Number(number=1), Here()
        self.assertEqual(one.number, 1)
        self.assertEqual(Cell(row=1).row, 1)
        self.assertEqual(Shifted(other=3, by=2, row=1).by, 2)
        self.assertEqual(Local(at=4).at, 4)
        self.assertEqual(At(place=one, row=0).place, one)
        self.assertEqual(Pair(right=two, left=one, sign="+").right, two)
        self.assertEqual(Choice(right=two, left=one, test=two).left, one)
        self.assertEqual(Call(handed=[one], at=0).handed, [one])
        self.assertEqual(Spot(own=[1], place=2, cells=[3], functions=[], lengths=[1]).own, [1])


class Spots(unittest.TestCase):
    def test_fields_are_the_very_lists(self):
        lengths, functions, cells, own = [1], [(0, Here())], [5], [7]
        spot = Spot(lengths, functions, cells, 3, own)
        self.assertIs(spot.lengths, lengths)
        self.assertIs(spot.functions, functions)
        self.assertIs(spot.cells, cells)
        self.assertIs(spot.own, own)
        self.assertEqual(spot.place, 3)

    def test_a_list_changed_behind_the_making_is_seen(self):
        lengths, functions, cells, own = [2], [], [5, 6], [7]
        spot = Spot(lengths, functions, cells, 1, own)
        cells[1] = 60
        own[0] = 70
        functions.append((0, Number(8)))
        self.assertEqual(Cell(0).worth(spot), 60)
        self.assertEqual(Local(0).worth(spot), 70)
        self.assertEqual(Call(0, []).worth(spot), 8)
        lengths.append(1)
        cells.append(90)
        self.assertEqual(Cell(1).worth(spot), 90)
        lengths[0] = 1
        self.assertEqual(Cell(0).worth(spot), 5)


class Leaves(unittest.TestCase):
    def test_number(self):
        for number in (0, 1, -1, HALF - 1, -HALF):
            self.assertEqual(Number(number).worth(spot_at(2)), number)

    def test_here(self):
        self.assertEqual(worths(Here(), [0, 1, 399]), [0, 1, 399])

    def test_cell(self):
        self.assertEqual(worths(Cell(0), [0, 1, 2]), [10, 11, 12])
        self.assertEqual(worths(Cell(2), [0, 1, 2, 3]), [30, 31, 32, 33])

    def test_cell_of_a_row_of_one_cell(self):
        self.assertEqual(worths(Cell(1), [0, 1, 2, 399]), [20, 20, 20, 20])

    def test_shifted(self):
        self.assertEqual(worths(Shifted(0, 0, -7), [0, 1, 2, 3]), [10, 11, 12, -7])
        self.assertEqual(worths(Shifted(0, 1, -7), [0, 1, 2]), [11, 12, -7])
        self.assertEqual(worths(Shifted(0, -1, -7), [0, 1, 2, 3, 4]), [-7, 10, 11, 12, -7])
        self.assertEqual(worths(Shifted(2, -400, -7), [0, 399, 400, 403, 404]), [-7, -7, 30, 33, -7])
        self.assertEqual(worths(Shifted(2, 400, -7), [0, 3]), [-7, -7])

    def test_shifted_never_wraps_around_within_the_list(self):
        self.assertEqual(worths(Shifted(2, -1, 0), [0]), [0])
        self.assertEqual(worths(Shifted(0, 3, 0), [0]), [0])

    def test_shifted_of_a_row_of_one_cell(self):
        self.assertEqual(worths(Shifted(1, 0, -7), [0, 1, 2]), [20, -7, -7])
        self.assertEqual(worths(Shifted(1, -2, -7), [0, 1, 2, 3]), [-7, -7, 20, -7])
        self.assertEqual(worths(Shifted(1, 1, -7), [0, 1]), [-7, -7])

    def test_shifted_gives_other_as_it_is(self):
        self.assertEqual(worths(Shifted(1, 5, HALF - 1), [0]), [HALF - 1])
        self.assertEqual(worths(Shifted(1, 5, -HALF), [0]), [-HALF])

    def test_local(self):
        spot = spot_at(1, own=[5, -6, 7, 8, 9, HALF - 1])
        self.assertEqual([Local(at).worth(spot) for at in range(6)], [5, -6, 7, 8, 9, HALF - 1])


class Places(unittest.TestCase):
    def test_at(self):
        self.assertEqual([At(2, Number(place)).worth(spot_at(0)) for place in range(4)], [30, 31, 32, 33])
        self.assertEqual(worths(At(0, Pair("-", Number(2), Here())), [0, 1, 2]), [12, 11, 10])

    def test_the_cell_asked_for_is_told_by_the_worth(self):
        self.assertEqual(At(2, Pair("-", At(0, Number(1)), Number(9))).worth(spot_at(0)), 32)

    def test_outside(self):
        for row, length in enumerate(LENGTHS):
            for place in (-1, -length, length, length + 1, HALF - 1, -HALF):
                with self.subTest(row=row, place=place):
                    with self.assertRaises(Outside) as taken:
                        At(row, Number(place)).worth(spot_at(0))
                    self.assertIs(type(taken.exception), Outside)

    def test_a_row_of_one_cell_is_no_other(self):
        self.assertEqual(At(1, Number(0)).worth(spot_at(2)), 20)
        for place in (1, 2):
            with self.assertRaises(Outside):
                At(1, Here()).worth(spot_at(place))

    def test_what_its_place_refuses(self):
        with self.assertRaises(ByNought):
            At(0, BY_NOUGHT).worth(spot_at(0))


class Pairs(unittest.TestCase):
    def test_every_sign(self):
        rows = {"+": -4, "-": -10, "*": -21, "/": -3, "rest": 2, "least": -7, "most": 3, "<": 1, "=": 0,
                "&": 1, "|": -5, "^": -6}
        for sign, worth in rows.items():
            with self.subTest(sign=sign):
                self.assertEqual(Pair(sign, Number(-7), Number(3)).worth(spot_at(0)), worth)

    def test_what_comes_is_kept(self):
        self.assertEqual(Pair("+", Number(HALF - 1), Number(1)).worth(spot_at(0)), -HALF)
        self.assertEqual(Pair("/", Number(-HALF), Number(-1)).worth(spot_at(0)), -HALF)

    def test_by_nought(self):
        for sign in ("/", "rest"):
            with self.assertRaises(ByNought) as taken:
                Pair(sign, Cell(0), Number(0)).worth(spot_at(0))
            self.assertIs(type(taken.exception), ByNought)
        self.assertEqual(Pair("*", Cell(0), Number(0)).worth(spot_at(0)), 0)

    def test_left_ahead_of_right_where_both_refuse(self):
        with self.assertRaises(ByNought):
            Pair("+", BY_NOUGHT, OUTSIDE).worth(spot_at(0))
        with self.assertRaises(Outside):
            Pair("+", OUTSIDE, BY_NOUGHT).worth(spot_at(0))

    def test_the_forms_ahead_of_the_sign(self):
        with self.assertRaises(Outside):
            Pair("/", OUTSIDE, Number(0)).worth(spot_at(0))
        with self.assertRaises(Outside):
            Pair("*", Number(0), OUTSIDE).worth(spot_at(0))

    def test_each_is_asked_once_left_first(self):
        for sign in ("+", "<", "least", "&"):
            notes = []
            Pair(sign, Asked(notes, "left", 1), Asked(notes, "right", 2)).worth(spot_at(0))
            self.assertEqual(notes, ["left", "right"])


class Choices(unittest.TestCase):
    def test_by_the_test(self):
        for test, worth in ((1, 5), (-1, 5), (2, 5), (HALF - 1, 5), (-HALF, 5), (0, 6)):
            self.assertEqual(Choice(Number(test), Number(5), Number(6)).worth(spot_at(0)), worth)

    def test_the_other_side_is_not_asked(self):
        for bad in (BY_NOUGHT, OUTSIDE):
            self.assertEqual(Choice(Number(3), Number(5), bad).worth(spot_at(0)), 5)
            self.assertEqual(Choice(Number(0), bad, Number(6)).worth(spot_at(0)), 6)

    def test_what_is_asked_and_when(self):
        for test, asked in ((1, "left"), (0, "right")):
            notes = []
            form = Choice(Asked(notes, "test", test), Asked(notes, "left", 0), Asked(notes, "right", 1))
            form.worth(spot_at(0))
            self.assertEqual(notes, ["test", asked])

    def test_what_refuses(self):
        with self.assertRaises(Outside):
            Choice(Number(1), OUTSIDE, Number(6)).worth(spot_at(0))
        with self.assertRaises(Outside):
            Choice(Number(0), Number(5), OUTSIDE).worth(spot_at(0))
        with self.assertRaises(ByNought):
            Choice(BY_NOUGHT, OUTSIDE, OUTSIDE).worth(spot_at(0))


class Calls(unittest.TestCase):
    def test_nothing_handed(self):
        functions = [(0, Number(4)), (0, Here())]
        self.assertEqual(Call(0, []).worth(spot_at(2, functions=functions)), 4)
        self.assertEqual(Call(1, []).worth(spot_at(2, functions=functions)), 2)

    def test_numbers_are_handed_in_their_order(self):
        functions = [(2, Pair("-", Local(0), Local(1)))]
        self.assertEqual(Call(0, [Cell(0), Cell(1)]).worth(spot_at(2, functions=functions)), 12 - 20)

    def test_six_handed(self):
        handed = [Number(number) for number in (2, 3, 5, 7, 11, 13)]
        for at in range(6):
            spot = spot_at(0, functions=[(6, Local(at))])
            self.assertEqual(Call(0, handed).worth(spot), (2, 3, 5, 7, 11, 13)[at])

    def test_at_the_same_place(self):
        functions = [(1, Pair("+", Here(), Local(0)))]
        call = Call(0, [Pair("*", Here(), Number(100))])
        self.assertEqual([call.worth(spot_at(place, functions=functions)) for place in (0, 3)], [0, 303])

    def test_handed_forms_are_asked_first_one_first_and_each_once(self):
        notes = []
        handed = [Asked(notes, "first", 1), Asked(notes, "second", 2), Asked(notes, "third", 3)]
        functions = [(3, Pair("+", Asked(notes, "body", 4), Pair("+", Local(2), Local(2))))]
        self.assertEqual(Call(0, handed).worth(spot_at(0, functions=functions)), 10)
        self.assertEqual(notes, ["first", "second", "third", "body"])

    def test_handed_forms_refuse_though_nothing_uses_them(self):
        functions = [(1, Number(4)), (2, Local(0)), (1, BY_NOUGHT)]
        with self.assertRaises(ByNought):
            Call(0, [BY_NOUGHT]).worth(spot_at(0, functions=functions))
        with self.assertRaises(Outside):
            Call(1, [Number(1), OUTSIDE]).worth(spot_at(0, functions=functions))
        with self.assertRaises(Outside):
            Call(1, [OUTSIDE, BY_NOUGHT]).worth(spot_at(0, functions=functions))
        with self.assertRaises(Outside):
            Call(2, [OUTSIDE]).worth(spot_at(0, functions=functions))

    def test_a_body_refuses(self):
        functions = [(2, Pair("rest", Local(0), Local(1)))]
        call = Call(0, [Number(7), Here()])
        self.assertEqual(call.worth(spot_at(4, functions=functions)), 3)
        with self.assertRaises(ByNought):
            call.worth(spot_at(0, functions=functions))

    def test_functions_that_call_functions_ahead(self):
        functions = [
            (1, Pair("*", Local(0), Local(0))),
            (2, Pair("+", Call(0, [Local(1)]), Local(0))),
            (3, Pair("-", Call(1, [Local(2), Local(0)]), Local(1))),
        ]
        call = Call(2, [Number(5), Number(6), Number(7)])
        self.assertEqual(call.worth(spot_at(0, functions=functions)), 5 * 5 + 7 - 6)

    def test_a_chain_of_eight_functions(self):
        functions = [(1, Pair("+", Local(0), Number(1)))]
        for at in range(7):
            functions.append((1, Pair("*", Number(2), Call(at, [Pair("+", Local(0), Number(1))]))))
        self.assertEqual(Call(7, [Number(0)]).worth(spot_at(0, functions=functions)), 8 * 2 ** 7)

    def test_a_call_within_a_handed_form(self):
        functions = [(1, Pair("+", Local(0), Number(1)))]
        call = Call(0, [Call(0, [Call(0, [Cell(0)])])])
        self.assertEqual(call.worth(spot_at(1, functions=functions)), 14)

    def test_the_callers_own_numbers_stay(self):
        functions = [(1, Pair("*", Local(0), Number(2))), (1, Pair("+", Call(0, [Number(50)]), Local(0)))]
        spot = spot_at(0, functions=functions)
        self.assertEqual(Call(1, [Number(7)]).worth(spot), 107)
        self.assertEqual(spot.own, [])

    def test_a_list_changed_behind_the_making(self):
        functions = [(2, Pair("-", Local(0), Local(1)))]
        handed = [Number(9), Number(4)]
        call = Call(0, handed)
        handed[0] = Number(100)
        handed.append(BY_NOUGHT)
        self.assertEqual(call.worth(spot_at(0, functions=functions)), 5)
        self.assertEqual(len(call.handed), 2)

    def test_a_calls_own_list_is_not_the_one_handed_in(self):
        handed = [Number(9)]
        call = Call(0, handed)
        self.assertIsNot(call.handed, handed)
        call.handed.append(Number(1))
        self.assertEqual(len(handed), 1)


class NothingIsChanged(unittest.TestCase):
    def test_what_is_handed_in_stays(self):
        functions = [(1, Pair("+", Local(0), Here())), (1, Call(0, [Local(0)]))]
        lengths, cells, own, told = list(LENGTHS), list(CELLS), [3], list(functions)
        spot = Spot(lengths, functions, cells, 1, own)
        left = Call(1, [Pair("+", Cell(0), Shifted(2, 1, 0))])
        form = Choice(Cell(1), Pair("+", left, At(2, Local(0))), Number(0))
        self.assertEqual(form.worth(spot), 11 + 32 + 1 + 33)
        self.assertEqual(form.worth(spot), 11 + 32 + 1 + 33)
        self.assertEqual((lengths, cells, own, functions), (LENGTHS, CELLS, [3], told))
        self.assertIs(spot.own, own)
        self.assertEqual(spot.place, 1)

    def test_what_is_handed_in_stays_where_it_refuses(self):
        functions = [(1, BY_NOUGHT)]
        lengths, cells, own = list(LENGTHS), list(CELLS), [3]
        spot = Spot(lengths, functions, cells, 1, own)
        with self.assertRaises(ByNought):
            Call(0, [Number(1)]).worth(spot)
        with self.assertRaises(Outside):
            OUTSIDE.worth(spot)
        self.assertEqual((lengths, cells, own, len(functions)), (LENGTHS, CELLS, [3], 1))


if __name__ == "__main__":
    unittest.main()

import unittest

from rowbreadth.forms import At, Call, Cell, Choice, Form, Here, Local, Number, Pair, Shifted
from rowbreadth.plain import played
from rowbreadth.steps import Fold, Let, Program, Put, Running, Till

HALF = 2 ** 63
CAP = 10 ** 9
ONE, NOUGHT = Number(1), Number(0)
BY_NOUGHT = Pair("/", ONE, NOUGHT)
OUTSIDE = At(0, Number(-1))


def plus(left, right):
    return Pair("+", left, right)


def not_here(place):
    return Pair("=", Pair("=", Here(), Number(place)), NOUGHT)


def divided_by_distance(place):
    # Refuses at that one place.
    return Pair("/", Number(100), Pair("-", Here(), Number(place)))


def outside_at(place, row=0):
    # Refuses at that one place; else 7, whatever the row holds.
    return Choice(not_here(place), Number(7), At(row, Number(-1)))


def play(lengths, cells, steps, functions=()):
    return played(Program(lengths, list(functions), steps), cells)


class Asked(Form):
    # Tells in a list which form was asked, and at which place.
    def __init__(self, notes, name, numbers):
        self.notes = notes
        self.name = name
        self.numbers = numbers

    def worth(self, spot):
        self.notes.append((self.name, spot.place))
        return self.numbers[spot.place]


class Lets(unittest.TestCase):
    def test_without_a_test(self):
        self.assertEqual(play([3, 2], [1, 2, 3, 4, 5], [Let(0, Pair("*", Here(), Number(10)))]),
                         ([0, 10, 20, 4, 5], None))
        self.assertEqual(play([3, 2], [1, 2, 3, 4, 5], [Let(1, Number(9))]), ([1, 2, 3, 9, 9], None))

    def test_a_test_that_is_nought_at_the_first_a_middle_the_last_and_every_one(self):
        for place, behind in ((0, [1, 9, 9]), (1, [9, 2, 9]), (2, [9, 9, 3])):
            self.assertEqual(play([3], [1, 2, 3], [Let(0, Number(9), not_here(place))]), (behind, None))
        self.assertEqual(play([3], [1, 2, 3], [Let(0, Number(9), NOUGHT)]), ([1, 2, 3], None))

    def test_any_test_but_nought_lets_it_go_on(self):
        for number in (1, -1, 2, HALF - 1, -HALF):
            self.assertEqual(play([1], [5], [Let(0, Number(9), Number(number))]), ([9], None))

    def test_a_passed_element_asks_no_value_and_refuses_nothing(self):
        self.assertEqual(play([3], [1, 2, 3], [Let(0, BY_NOUGHT, NOUGHT)]), ([1, 2, 3], None))
        self.assertEqual(play([3], [1, 2, 3], [Let(0, divided_by_distance(1), not_here(1))]), ([-100, 2, 100], None))

    def test_a_value_that_refuses_at_a_middle_element(self):
        self.assertEqual(play([4], [1, 2, 3, 4], [Let(0, divided_by_distance(2))]),
                         ([-50, -100, 3, 4], (0, 2, "nought")))
        self.assertEqual(play([4], [1, 2, 3, 4], [Let(0, outside_at(1))]), ([7, 2, 3, 4], (0, 1, "outside")))

    def test_a_test_that_refuses_ahead_of_the_value(self):
        self.assertEqual(play([3], [1, 2, 3], [Let(0, OUTSIDE, divided_by_distance(0))]),
                         ([1, 2, 3], (0, 0, "nought")))
        self.assertEqual(play([3], [1, 2, 3], [Let(0, BY_NOUGHT, OUTSIDE)]), ([1, 2, 3], (0, 0, "outside")))
        self.assertEqual(play([3], [1, 2, 3], [Let(0, Number(9), divided_by_distance(2))]),
                         ([9, 9, 3], (0, 2, "nought")))

    def test_its_target_read_by_cell(self):
        self.assertEqual(play([3], [1, 2, 3], [Let(0, Pair("*", Cell(0), Cell(0)))]), ([1, 4, 9], None))
        self.assertEqual(play([3], [1, 0, 3], [Let(0, plus(Cell(0), ONE), Cell(0))]), ([2, 0, 4], None))
        self.assertEqual(play([1], [5], [Let(0, plus(Cell(0), ONE))]), ([6], None))

    def test_other_rows_read(self):
        steps = [Let(1, plus(Cell(0), plus(Cell(2), Shifted(0, 1, 1000))))]
        self.assertEqual(play([3, 3, 1], [1, 2, 3, 0, 0, 0, 50], steps), ([1, 2, 3, 53, 55, 1053, 50], None))

    def test_what_is_asked_and_when(self):
        notes = []
        step = Let(0, Asked(notes, "value", [5, 6, 7]), Asked(notes, "test", [1, 0, -1]))
        self.assertEqual(play([3], [1, 2, 3], [step]), ([5, 2, 7], None))
        self.assertEqual(notes, [("test", 0), ("value", 0), ("test", 1), ("test", 2), ("value", 2)])

    def test_functions(self):
        functions = [(1, Pair("*", Local(0), Number(2))), (2, Pair("-", Call(0, [Local(0)]), Local(1)))]
        self.assertEqual(play([3], [5, 6, 7], [Let(0, Call(1, [Cell(0), Here()]))], functions), ([10, 11, 12], None))

    def test_outside_of_functions_nothing_is_handed(self):
        class Own(Form):
            def worth(self, spot):
                return len(spot.own)
        self.assertEqual(play([2], [5, 6], [Let(0, Own())]), ([0, 0], None))


class Puts(unittest.TestCase):
    def test_without_a_test(self):
        step = Put(1, Cell(0), Pair("-", Number(2), Here()), 3)
        self.assertEqual(play([3, 4], [1, 2, 3, 9, 9, 9, 9], [step]), ([1, 2, 3, 3, 2, 1, 9], None))

    def test_as_many_as_told(self):
        self.assertEqual(play([4], [9] * 4, [Put(0, ONE, Here(), 1)]), ([1, 9, 9, 9], None))
        self.assertEqual(play([4], [9] * 4, [Put(0, ONE, Here(), 3)]), ([1, 1, 1, 9], None))
        self.assertEqual(play([1], [9], [Put(0, Here(), NOUGHT, 400)]), ([399], None))

    def test_a_test(self):
        for place, behind in ((0, [9, 1, 2]), (1, [0, 9, 2]), (2, [0, 1, 9])):
            self.assertEqual(play([3], [9] * 3, [Put(0, Here(), Here(), 3, not_here(place))]), (behind, None))
        self.assertEqual(play([3], [9] * 3, [Put(0, BY_NOUGHT, Number(-1), 3, NOUGHT)]), ([9] * 3, None))

    def test_a_place_below_nought_and_at_the_rows_length(self):
        for place in (-1, 3, 4, -HALF, HALF - 1):
            for steps in ([Put(0, ONE, Number(place), 1)], [Put(1, ONE, Number(place), 1)]):
                with self.subTest(place=place, target=steps[0].target):
                    self.assertEqual(play([3, 3, 1], [9] * 7, steps), ([9] * 7, (0, 0, "outside")))
        self.assertEqual(play([3, 3, 1], [9] * 7, [Put(1, ONE, NOUGHT, 1)]), ([9, 9, 9, 1, 9, 9, 9], None))
        self.assertEqual(play([3, 3, 1], [9] * 7, [Put(1, ONE, Number(2), 1)]), ([9, 9, 9, 9, 9, 1, 9], None))

    def test_a_row_of_one_cell_has_one_place(self):
        self.assertEqual(play([1, 2], [9, 9, 9], [Put(0, plus(Here(), ONE), Here(), 2)]), ([1, 9, 9], (0, 1, "outside")))

    def test_the_elements_ahead_of_the_refused_one_stay_done(self):
        self.assertEqual(play([3], [9] * 3, [Put(0, Here(), plus(Here(), ONE), 3)]), ([9, 0, 1], (0, 2, "outside")))
        self.assertEqual(play([3], [9] * 3, [Put(0, divided_by_distance(1), Here(), 3)]),
                         ([-100, 9, 9], (0, 1, "nought")))

    def test_the_value_ahead_of_the_place_where_both_refuse(self):
        self.assertEqual(play([3], [9] * 3, [Put(0, BY_NOUGHT, Number(3), 3)]), ([9] * 3, (0, 0, "nought")))
        self.assertEqual(play([3], [9] * 3, [Put(0, BY_NOUGHT, OUTSIDE, 3)]), ([9] * 3, (0, 0, "nought")))
        self.assertEqual(play([3], [9] * 3, [Put(0, OUTSIDE, BY_NOUGHT, 3)]), ([9] * 3, (0, 0, "outside")))

    def test_a_place_that_refuses_by_itself(self):
        self.assertEqual(play([3], [9] * 3, [Put(0, ONE, BY_NOUGHT, 3)]), ([9] * 3, (0, 0, "nought")))
        self.assertEqual(play([3], [9] * 3, [Put(0, ONE, OUTSIDE, 3)]), ([9] * 3, (0, 0, "outside")))

    def test_the_test_ahead_of_both(self):
        self.assertEqual(play([3], [9] * 3, [Put(0, OUTSIDE, Number(3), 3, BY_NOUGHT)]), ([9] * 3, (0, 0, "nought")))

    def test_two_elements_with_one_place(self):
        self.assertEqual(play([2], [9, 9], [Put(0, Here(), Pair("/", Here(), Number(2)), 4)]), ([1, 3], None))
        self.assertEqual(play([2], [9, 9], [Put(0, Here(), ONE, 3, not_here(2))]), ([9, 1], None))

    def test_what_is_asked_and_when(self):
        notes = []
        forms = [Asked(notes, name, numbers) for name, numbers in (("value", [5, 6]), ("place", [1, 0]),
                                                                   ("test", [1, 1]))]
        self.assertEqual(play([2], [9, 9], [Put(0, forms[0], forms[1], 2, forms[2])]), ([6, 5], None))
        self.assertEqual(notes, [(name, place) for place in (0, 1) for name in ("test", "value", "place")])


class Folds(unittest.TestCase):
    def test_each_of_the_nine(self):
        rows = [("sum", 22), ("product", 12 * 3 * -5 * 12), ("least", -5), ("most", 12), ("both", 12 & 3 & -5 & 12),
                ("either", 12 | 3 | -5 | 12), ("odd", 12 ^ 3 ^ -5 ^ 12),
                ("chain", 31 * (31 * (31 * 12 + 3) - 5) + 12), ("capped", 22)]
        for fold, worth in rows:
            with self.subTest(fold=fold):
                step = Fold(1, fold, Cell(0), 3)
                self.assertEqual(play([3, 1], [3, -5, 12, 12], [step]), ([3, -5, 12, worth], None))

    def test_the_cell_is_the_running_number(self):
        self.assertEqual(play([1], [2], [Fold(0, "chain", Number(5), 1)]), ([67], None))
        self.assertEqual(play([1], [5], [Fold(0, "chain", Number(2), 1)]), ([157], None))

    def test_in_order_and_at_the_edges(self):
        self.assertEqual(play([1], [0], [Fold(0, "chain", Here(), 3)]), ([31 + 2], None))
        steps = [Fold(1, "capped", Cell(0), 3)]
        self.assertEqual(play([3, 1], [CAP, CAP, -CAP, 0], steps), ([CAP, CAP, -CAP, 0], None))
        self.assertEqual(play([3, 1], [CAP, -CAP, CAP, 5], steps), ([CAP, -CAP, CAP, CAP], None))
        self.assertEqual(play([1], [HALF - 1], [Fold(0, "sum", ONE, 2)]), ([-HALF + 1], None))

    def test_a_test(self):
        for place, worth in ((0, 123), (1, 122), (2, 121)):
            self.assertEqual(play([1], [120], [Fold(0, "sum", Here(), 3, not_here(place))]), ([worth], None))
        self.assertEqual(play([1], [120], [Fold(0, "product", BY_NOUGHT, 3, NOUGHT)]), ([120], None))

    def test_a_value_that_refuses_at_a_middle_element(self):
        self.assertEqual(play([1], [7], [Fold(0, "sum", divided_by_distance(2), 4)]), ([7 - 150], (0, 2, "nought")))
        self.assertEqual(play([1], [7], [Fold(0, "sum", outside_at(1), 4)]), ([14], (0, 1, "outside")))

    def test_as_many_as_told(self):
        for many in (1, 2, 400):
            self.assertEqual(play([1, 3], [0, 4, 4, 4], [Fold(0, "sum", ONE, many)]), ([many, 4, 4, 4], None))

    def test_a_target_behind_other_rows(self):
        self.assertEqual(play([2, 1, 2], [1, 2, 3, 4, 5], [Fold(1, "sum", Cell(2), 2)]), ([1, 2, 12, 4, 5], None))

    def test_what_is_asked_and_when(self):
        notes = []
        step = Fold(0, "sum", Asked(notes, "value", [5, 6, 7]), 3, Asked(notes, "test", [1, 0, 1]))
        self.assertEqual(play([1], [0], [step]), ([12], None))
        self.assertEqual(notes, [("test", 0), ("value", 0), ("test", 1), ("test", 2), ("value", 2)])


class Runnings(unittest.TestCase):
    def test_each_fold(self):
        rows = [("sum", [3, -2, 10]), ("product", [3, -15, -180]), ("least", [3, -5, -5]), ("most", [3, 3, 12]),
                ("both", [3, 3 & -5, 3 & -5 & 12]), ("either", [3, 3 | -5, 3 | -5 | 12]),
                ("odd", [3, 3 ^ -5, 3 ^ -5 ^ 12]), ("chain", [3, 88, 88 * 31 + 12]), ("capped", [3, -2, 10])]
        for fold, behind in rows:
            with self.subTest(fold=fold):
                step = Running(1, fold, Cell(0))
                self.assertEqual(play([3, 3], [3, -5, 12, 99, 99, 99], [step]), ([3, -5, 12] + behind, None))

    def test_the_first_one_is_not_joined(self):
        self.assertEqual(play([3], [8, 8, 8], [Running(0, "chain", ONE)]), ([1, 32, 993], None))
        self.assertEqual(play([1], [8], [Running(0, "capped", Number(CAP + 5))]), ([CAP + 5], None))
        self.assertEqual(play([2], [8, 8], [Running(0, "capped", Number(CAP + 5))]), ([CAP + 5, CAP], None))
        self.assertEqual(play([3], [8, 8, 8], [Running(0, "product", Number(3))]), ([3, 9, 27], None))
        self.assertEqual(play([3], [8, 8, 8], [Running(0, "both", Number(-7))]), ([-7, -7, -7], None))

    def test_a_running_number_of_nought_is_one_too(self):
        self.assertEqual(play([3], [8, 8, 8], [Running(0, "product", Here())]), ([0, 0, 0], None))
        self.assertEqual(play([3], [8, 8, 8], [Running(0, "chain", Pair("-", ONE, Here()))]), ([1, 31, 960], None))

    def test_first_elements_passed_over(self):
        late = Pair("<", ONE, Here())
        self.assertEqual(play([5], [8] * 5, [Running(0, "chain", plus(Here(), ONE), late)]),
                         ([8, 8, 3, 97, 97 * 31 + 5], None))

    def test_middle_and_last_ones_passed_over(self):
        value = plus(Here(), ONE)
        self.assertEqual(play([3], [8] * 3, [Running(0, "sum", value, not_here(0))]), ([8, 2, 5], None))
        self.assertEqual(play([3], [8] * 3, [Running(0, "sum", value, not_here(1))]), ([1, 8, 4], None))
        self.assertEqual(play([3], [8] * 3, [Running(0, "sum", value, not_here(2))]), ([1, 3, 8], None))
        self.assertEqual(play([3], [8] * 3, [Running(0, "sum", BY_NOUGHT, NOUGHT)]), ([8, 8, 8], None))

    def test_its_target_read_by_cell(self):
        self.assertEqual(play([4], [1, 2, 3, 4], [Running(0, "sum", Cell(0))]), ([1, 3, 6, 10], None))
        self.assertEqual(play([4], [1, 0, 3, 4], [Running(0, "sum", Cell(0), Cell(0))]), ([1, 0, 4, 8], None))

    def test_a_value_that_refuses_at_a_middle_element(self):
        self.assertEqual(play([4], [8] * 4, [Running(0, "sum", divided_by_distance(2))]),
                         ([-50, -150, 8, 8], (0, 2, "nought")))
        self.assertEqual(play([4], [8] * 4, [Running(0, "sum", outside_at(3))]), ([7, 14, 21, 8], (0, 3, "outside")))

    def test_each_playing_begins_anew(self):
        step = Running(0, "sum", ONE)
        self.assertEqual(play([3], [8] * 3, [step, step]), ([1, 2, 3], None))
        steps = [Till(1, 3, [Running(0, "sum", ONE), Let(1, ONE)])]
        self.assertEqual(play([3, 1], [8, 8, 8, 0], steps), ([1, 2, 3, 1], None))

    def test_what_is_asked_and_when(self):
        notes = []
        step = Running(0, "sum", Asked(notes, "value", [5, 6, 7]), Asked(notes, "test", [0, 1, 1]))
        self.assertEqual(play([3], [1, 1, 1], [step]), ([1, 6, 13], None))
        self.assertEqual(notes, [("test", 0), ("test", 1), ("value", 1), ("test", 2), ("value", 2)])


class Tills(unittest.TestCase):
    # Row 0 is the target, row 1 counts the turns; the target is laid where so many were made.
    def until(self, turns):
        return [Let(1, plus(Cell(1), ONE)), Let(0, Pair("=", Cell(1), Number(turns)))]

    def test_behind_the_first_turn(self):
        for most in (1, 2, 1000):
            self.assertEqual(play([1, 1], [0, 0], [Till(0, most, self.until(1))]), ([1, 1], None))

    def test_a_turn_is_made_ahead_of_the_first_look(self):
        self.assertEqual(play([1, 1], [5, 0], [Till(0, 3, [Let(1, plus(Cell(1), ONE))])]), ([5, 1], None))
        self.assertEqual(play([1, 1], [5, 0], [Till(0, 3, self.until(2))]), ([1, 2], None))

    def test_behind_the_last_turn_allowed(self):
        for most in (2, 7, 1000):
            self.assertEqual(play([1, 1], [0, 0], [Till(0, most, self.until(most))]), ([1, most], None))

    def test_endless(self):
        for most in (1, 2, 6, 1000):
            self.assertEqual(play([1, 1], [0, 0], [Till(0, most, self.until(most + 1))]),
                             ([0, most], (0, most, "endless")))

    def test_what_comes_behind_an_endless_one_is_not_played(self):
        steps = [Let(1, Number(3)), Till(0, 2, []), Let(1, Number(4))]
        self.assertEqual(play([1, 1], [0, 0], steps), ([0, 3], (1, 2, "endless")))

    def test_without_steps(self):
        self.assertEqual(play([3], [0, 0, 0], [Till(0, 5, [])]), ([0, 0, 0], (0, 5, "endless")))
        self.assertEqual(play([3], [0, -1, 0], [Till(0, 5, [])]), ([0, -1, 0], None))

    def test_any_cell_of_its_row_and_of_no_other(self):
        for place in range(5):
            cells = [0] * 5
            cells[place] = -7
            refusal = None if 1 <= place <= 3 else (0, 1, "endless")
            self.assertEqual(play([1, 3, 1], cells, [Till(1, 1, [])]), (cells, refusal))

    def test_only_behind_a_turn_it_is_looked(self):
        steps = [Till(0, 4, [Let(0, ONE), Let(1, plus(Cell(1), ONE)), Let(0, Pair("=", Cell(1), Number(3)))])]
        self.assertEqual(play([1, 1], [0, 0], steps), ([1, 3], None))

    def test_within_one_another(self):
        # The inner one makes two turns in each of the outer one's three.
        inner = [Let(1, plus(Cell(1), ONE)), Let(0, Pair("=", Pair("rest", Cell(1), Number(2)), NOUGHT))]
        outer = [Till(0, 2, inner), Let(3, plus(Cell(3), ONE)), Let(2, Pair("=", Cell(3), Number(3)))]
        self.assertEqual(play([1, 1, 1, 1], [0, 0, 0, 0], [Till(2, 9, outer)]), ([1, 6, 1, 3], None))

    def test_three_within_one_another(self):
        count = Let(1, plus(Cell(1), ONE))
        deepest = Till(0, 2, [count, Let(0, Pair("=", Pair("rest", Cell(1), Number(2)), NOUGHT))])
        middle = Till(0, 3, [deepest, Let(0, Pair("=", Pair("rest", Cell(1), Number(6)), NOUGHT))])
        outer = Till(0, 4, [middle, Let(0, Pair("=", Cell(1), Number(24)))])
        self.assertEqual(play([1, 1], [0, 0], [outer]), ([1, 24], None))
        short = Till(0, 3, [middle, Let(0, Pair("=", Cell(1), Number(24)))])
        self.assertEqual(play([1, 1], [0, 0], [short]), ([0, 18], (0, 3, "endless")))

    def test_an_inner_one_counts_its_turns_anew(self):
        inner = [Let(1, plus(Cell(1), ONE)), Let(0, Pair("=", Cell(1), Number(3)))]
        outer = Till(2, 5, [Let(1, NOUGHT), Till(0, 3, inner), Let(2, plus(Cell(2), Number(0)))])
        self.assertEqual(play([1, 1, 1], [0, 0, 0], [outer]), ([1, 3, 0], (0, 5, "endless")))

    def test_an_inner_endless_one_is_the_refusal(self):
        steps = [Till(0, 9, [Let(1, plus(Cell(1), ONE)), Till(0, 4, []), Let(0, ONE)])]
        self.assertEqual(play([1, 1], [0, 0], steps), ([0, 1], (2, 4, "endless")))

    def test_a_refusal_within_a_later_turn(self):
        steps = [Till(0, 9, [Let(1, plus(Cell(1), ONE)), Let(2, Pair("/", Number(12), Pair("-", Number(3), Cell(1))))])]
        self.assertEqual(play([1, 1, 2], [0, 0, 0, 0], steps), ([0, 3, 12, 12], (2, 0, "nought")))


class Numbering(unittest.TestCase):
    def refused(self, steps):
        return play([1], [0], steps)[1]

    def test_side_by_side(self):
        good, bad = Let(0, ONE), Let(0, BY_NOUGHT)
        for many in range(5):
            self.assertEqual(self.refused([good] * many + [bad, bad]), (many, 0, "nought"))

    def test_behind_a_till(self):
        good, bad = Let(0, ONE), Let(0, OUTSIDE)
        self.assertEqual(self.refused([Till(0, 1, [good, good]), bad]), (3, 0, "outside"))
        self.assertEqual(self.refused([good, Till(0, 1, []), bad]), (2, 0, "outside"))
        self.assertEqual(self.refused([good, Till(0, 1, [good]), Till(0, 1, [good]), bad]), (5, 0, "outside"))

    def test_within_a_till(self):
        good, bad = Let(0, ONE), Let(0, BY_NOUGHT)
        self.assertEqual(self.refused([Till(0, 1, [bad])]), (1, 0, "nought"))
        self.assertEqual(self.refused([good, Till(0, 1, [good, bad])]), (3, 0, "nought"))

    def test_within_and_behind_tills_within_one_another(self):
        good, bad = Let(0, ONE), Let(0, BY_NOUGHT)
        inner = Till(0, 1, [good, good])
        self.assertEqual(self.refused([Till(0, 1, [Till(0, 1, [Till(0, 1, [bad])])])]), (3, 0, "nought"))
        self.assertEqual(self.refused([Till(0, 1, [inner, inner, bad])]), (7, 0, "nought"))
        self.assertEqual(self.refused([Till(0, 1, [Till(0, 1, [inner, good]), good]), bad]), (7, 0, "nought"))

    def test_of_an_endless_one_behind_others(self):
        nought = Let(0, NOUGHT)
        self.assertEqual(self.refused([Let(0, ONE), Till(0, 1, []), nought, Till(0, 6, [nought])]), (3, 6, "endless"))

    def test_the_same_step_at_two_places(self):
        bad = Let(0, Pair("/", ONE, Cell(0)))
        self.assertEqual(play([1], [2], [bad, bad]), ([0], (1, 0, "nought")))

    def test_forty_steps(self):
        self.assertEqual(self.refused([Let(0, ONE)] * 39 + [Let(0, BY_NOUGHT)]), (39, 0, "nought"))


class Playing(unittest.TestCase):
    def test_without_steps(self):
        self.assertEqual(play([2, 1], [4, 5, 6], []), ([4, 5, 6], None))
        self.assertEqual(play([], [], []), ([], None))

    def test_the_list_handed_in_stays_and_another_is_told(self):
        for steps in ([], [Let(0, Number(9))], [Let(0, divided_by_distance(1))], [Till(0, 2, [Let(0, NOUGHT)])]):
            cells = [4, 5]
            behind, _ = play([2], cells, steps)
            self.assertEqual(cells, [4, 5])
            self.assertIsNot(behind, cells)
            behind.append(1)
            self.assertEqual(cells, [4, 5])

    def test_nothing_done_later_changes_what_was_told(self):
        cells = [4, 5]
        program = Program([2], [], [Let(0, plus(Cell(0), ONE))])
        first = played(program, cells)
        cells[0] = 100
        second = played(program, cells)
        second[0].clear()
        program.steps.clear()
        self.assertEqual(first, ([5, 6], None))

    def test_the_program_stays_and_may_be_played_again(self):
        let, body = Let(0, Call(0, [Cell(0)])), plus(Local(0), ONE)
        till = Till(0, 3, [let])
        program = Program([2], [(1, body)], [let, till])
        for _ in range(3):
            self.assertEqual(played(program, [-1, -2]), ([1, 0], None))
        self.assertEqual((program.lengths, program.functions, program.steps, till.steps),
                         ([2], [(1, body)], [let, till], [let]))

    def test_kinds_of_what_is_told(self):
        told = play([2], [0, 0], [Let(0, divided_by_distance(1))])
        self.assertIs(type(told), tuple)
        self.assertIs(type(told[0]), list)
        self.assertIs(type(told[1]), tuple)
        self.assertEqual(len(told), 2)
        told = play([2], [0, 0], [Till(0, 4, [])])
        self.assertEqual([type(part) for part in told[1]], [int, int, str])

    def test_earlier_steps_stay_done_and_later_ones_are_not_played(self):
        steps = [Let(0, Number(3)), Let(1, divided_by_distance(1)), Let(0, Number(4))]
        self.assertEqual(play([2, 2], [0] * 4, steps), ([3, 3, -100, 0], (1, 1, "nought")))

    def test_each_step_sees_what_those_ahead_did(self):
        steps = [Let(0, plus(Here(), ONE)), Fold(1, "sum", Cell(0), 3), Running(2, "sum", plus(Cell(0), Cell(1))),
                 Put(0, Cell(2), Pair("-", Number(2), Here()), 3)]
        self.assertEqual(play([3, 1, 3], [0] * 7, steps), ([24, 15, 7, 6, 7, 15, 24], None))

    def test_a_list_changed_behind_the_making_changes_no_play(self):
        lengths, functions, steps = [2], [(0, ONE)], [Let(0, Call(0, []))]
        inner = [Let(0, Number(6))]
        till = Till(0, 1, inner)
        inner.clear()
        steps.append(till)
        program = Program(lengths, functions, steps)
        lengths[0] = 1
        functions[0] = (0, BY_NOUGHT)
        steps.append(Let(0, BY_NOUGHT))
        self.assertEqual(played(program, [0, 0]), ([6, 6], None))

    def test_twelve_rows_of_the_greatest_length(self):
        lengths = [400] * 12
        steps = [Let(row, plus(Here(), Number(row * 1000))) for row in range(12)]
        behind, refusal = play(lengths, [0] * 4800, steps)
        self.assertIsNone(refusal)
        self.assertEqual(behind, [row * 1000 + place for row in range(12) for place in range(400)])

    def test_numbers_stay_kept(self):
        steps = [Let(0, Pair("*", Cell(0), Cell(0))), Running(0, "sum", Cell(0))]
        self.assertEqual(play([3], [HALF - 1, -HALF, HALF - 1], steps), ([1, 1, 2], None))


if __name__ == "__main__":
    unittest.main()

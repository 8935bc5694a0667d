"""The machine: points [1] and [18] to [27]."""

import random
import unittest

from helper import FOLDS, HALF, SIGNS, Model
from rowbreadth.machine import ran

GROUPS = (1, 2, 4)
LANES = (1, 3, 64)
# Rows 0 and 1 of 6 cells each, row 2 of one cell, row 3 of three.
LENGTHS = [6, 6, 1, 3]
CELLS = [10, 11, 12, 13, 14, 15, 0, 0, 0, 0, 0, 0, 70, 30, 31, 32]
# Which elements a mask has: all, none, some; each as a form of steps that lay mask 1 by seat 0.
MASKS = {
    "all": [("number", 0, 1, 0), ("choose", 1, 0, 0)],
    "none": [("number", 0, 0, 0), ("choose", 1, 0, 0)],
    "some": [("here", 0, 0), ("number", 1, 2, 0), ("op", 0, "rest", 0, 1, 0), ("choose", 1, 0, 0)],
    "others": [("here", 0, 0), ("number", 1, 2, 0), ("op", 0, "rest", 0, 1, 0), ("other", 1, 0, 0)],
}
ELEMENTS = {"all": range(400), "none": [], "some": range(1, 400, 2), "others": range(0, 400, 2)}


def play(code, lanes=2, dust=(), picks=(), lengths=LENGTHS, cells=CELLS):
    return ran(code, list(lengths), list(cells), lanes, list(dust), list(picks))


def one_round(steps, many=6, group=1):
    return [("begin", many, group)] + steps + [("next",)]


def row_of(told, row):
    start = sum(LENGTHS[:row])
    return told[0][start:start + LENGTHS[row]]


class AtFirst(unittest.TestCase):
    def test_no_code(self):
        self.assertEqual(play([]), (CELLS, None, []))

    def test_boxes_masks_and_slots(self):
        for group in GROUPS:
            for lanes in LANES:
                for seat in (0, 8 // group - 1):
                    told = play(one_round([("store", 0, seat, 0)], 6, group), lanes, [5])
                    self.assertEqual(row_of(told, 0), [0] * 6)
                told = play(one_round([("number", 0, 4, 0)] + [("store", 0, 0, m) for m in range(1, 16)], 6, group), lanes)
                self.assertEqual(told, (CELLS, None, []))
                told = play(one_round([("bring", 0, 59, 0), ("store", 0, 0, 0)], 6, group), lanes, [5])
                self.assertEqual(row_of(told, 0), [0] * 6)

    def test_the_kinds_of_what_is_told(self):
        told = play(one_round([("here", 0, 0), ("store", 0, 0, 0)]))
        self.assertIs(type(told), tuple)
        self.assertEqual([type(part) for part in told], [list, type(None), list])
        self.assertTrue(all(type(touch) is tuple for touch in told[2]))


class HandedIn(unittest.TestCase):
    CODE = (one_round([("here", 0, 0), ("save", 3, 0, 0), ("bring", 1, 3, 0), ("store", 1, 1, 0),
                       ("fold", 2, "sum", 0, 0), ("running", 0, "sum", 0, 0)], 6, 2))

    def test_it_stays(self):
        code, lengths, cells, dust, picks = list(self.CODE), list(LENGTHS), list(CELLS), [4, 5], [6, 7]
        first = ran(code, lengths, cells, 2, dust, picks)
        self.assertEqual((code, lengths, cells, dust, picks), (list(self.CODE), LENGTHS, CELLS, [4, 5], [6, 7]))
        self.assertIsNot(first[0], cells)

    def test_what_was_told_stays_the_askers_own(self):
        cells, code = list(CELLS), list(self.CODE)
        first = ran(code, LENGTHS, cells, 2, [], [])
        behind = (list(first[0]), first[1], list(first[2]))
        cells[0] = 99
        code.clear()
        second = ran(list(self.CODE), LENGTHS, list(CELLS), 2, [], [])
        second[0].clear()
        second[2].clear()
        self.assertEqual(first, behind)
        self.assertEqual(ran([], [1], [3], 1, [], [])[0], [3])

    def test_cells_of_no_code_are_a_new_list(self):
        cells = list(CELLS)
        self.assertIsNot(ran([], LENGTHS, cells, 1, [], [])[0], cells)

    def test_by_its_arguments_names(self):
        self.assertEqual(ran(code=[], lengths=[1], cells=[3], lanes=1, dust=[], picks=[]), ([3], None, []))


class Rounds(unittest.TestCase):
    def test_each_element_once_whatever_the_width(self):
        for lanes in (1, 2, 3, 5, 64):
            for group in GROUPS:
                for many in (1, 2, 3, 4, 5, 6):
                    told = play(one_round([("here", 0, 0), ("store", 1, 0, 0)], many, group), lanes, [1])
                    self.assertEqual(row_of(told, 1), list(range(many)) + [0] * (6 - many))
                    self.assertEqual(told[2], [(2, "write", 6 + at) for at in range(many)])

    def test_four_hundred(self):
        for lanes in LANES:
            for group in GROUPS:
                told = ran(one_round([("here", 0, 0), ("store", 0, 0, 0)], 400, group), [400], [7] * 400, lanes, [1], [])
                self.assertEqual(told[0], list(range(400)))

    def test_several_rounds(self):
        code = (one_round([("here", 0, 0), ("store", 0, 0, 0)], 3, 1) + one_round([("load", 1, 0, 0),
                ("store", 1, 1, 0)], 6, 4) + one_round([("number", 0, 9, 0), ("store", 2, 0, 0)], 1, 2))
        told = play(code)
        self.assertEqual(told[0], [0, 1, 2, 13, 14, 15, 0, 1, 2, 13, 14, 15, 9, 30, 31, 32])
        self.assertEqual(told[2], [(2, "write", 0), (2, "write", 1), (2, "write", 2)]
                         + [(at, kind, address + place) for places in (range(6),)
                            for at, kind, address in ((5, "read", 0), (6, "write", 6)) for place in places]
                         + [(10, "write", 12)])

    def test_a_cut_strip_stands_for_as_many_elements_as_it_began_with(self):
        steps = [("here", 0, 0), ("reach", 0, 1, 0), ("trim",), ("store", 1, 0, 0)]
        told = play(one_round(steps, 6, 2), 2)
        self.assertEqual((row_of(told, 1), told[1]), ([0] * 6, None))
        self.assertEqual(told[2], [(4, "write", 6)])

    def test_a_fault_is_forgotten_by_the_next_strip(self):
        steps = [("here", 0, 0), ("number", 1, 1, 0), ("op", 1, "=", 0, 1, 0), ("reach", 1, 1, 0), ("store", 1, 0, 0)]
        told = play(one_round(steps, 6, 1), 2)
        self.assertEqual(told[2], [(5, "write", 6 + at) for at in (0, 2, 3, 4, 5)])


class Dust(unittest.TestCase):
    def test_by_the_lanes_of_a_seat_and_the_mask_of_a_strip(self):
        steps = [("number", 0, 50, 1), ("store", 1, 0, 0)]
        # Strips of two: 10 and 11; then lane 1 of mask 0 takes 12, and the seat 13 and 14.
        self.assertEqual(row_of(play(one_round(steps, 3), 2, [10, 11, 12, 13, 14]), 1), [10, 11, 13, 0, 0, 0])
        self.assertEqual(row_of(play(one_round(steps, 6), 2, [10, 11, 12]), 1), [10, 11, 12, 10, 11, 12])
        self.assertEqual(row_of(play(one_round(steps, 6), 2, []), 1), [0] * 6)
        self.assertEqual(row_of(play(one_round(steps, 3, 2), 2, [10, 11, 12, 13, 14]), 1), [11, 12, 13, 0, 0, 0])

    def test_by_lanes_beyond_the_mask_in_order(self):
        steps = MASKS["some"] + [("number", 3, 50, 1), ("store", 1, 3, 0)]
        self.assertEqual(row_of(play(one_round(steps, 6), 6, [1, 2, 3, 4]), 1), [1, 50, 2, 50, 3, 50])

    def test_by_lanes_that_fault(self):
        for step in (("gather", 0, 0, 3, 0), ("op", 0, "/", 1, 1, 0)):
            steps = [("here", 0, 0), ("number", 1, 0, 0), step, ("save", 0, 0, 0), ("next",), ("begin", 6, 1),
                     ("store", 1, 0, 0)]
            told = play(one_round(steps, 6), 6, [1, 2, 3, 4, 5, 6])
            wanted = [30, 31, 32, 1, 2, 3] if step[0] == "gather" else [1, 2, 3, 4, 5, 6]
            self.assertEqual(row_of(told, 1), wanted)

    def test_mask_nought_and_others_beyond_the_width(self):
        # One element: mask 0 takes three numbers, the seat three, mask 1 three; what mask 1 holds shows in a later round.
        for group, lanes in ((4, 1), (2, 2), (1, 4)):
            for word in ("choose", "other"):
                code = one_round([("number", 0, 1, 0), (word, 1, 0, 0)], 1, group)
                code += one_round([("number", 1, 5, 0), ("store", 1, 1, 1)], 4, group)
                told = play(code, lanes, [2, 2, 2, 2, 2, 2, 3, 4, -5, 2])
                self.assertEqual(row_of(told, 1), [5 if word == "choose" else 0, 5, 0, 5, 0, 0])

    def test_behind_a_trim_masks_take_dust_from_the_cut_on(self):
        code = one_round([("here", 0, 0), ("reach", 0, 1, 0), ("trim",), ("choose", 1, 0, 0)], 4, 1)
        code += one_round([("number", 1, 5, 0), ("store", 1, 1, 1)], 4, 1)
        self.assertEqual(row_of(play(code, 4, [2, 3, 5]), 1), [0, 0, 5, 5, 0, 0])

    def test_it_is_used_by_nothing_else(self):
        steps = [("here", 0, 0), ("save", 0, 0, 0), ("reach", 0, 9, 0), ("trim",), ("store", 0, 0, 0), ("any", 0, 0),
                 ("fold", 2, "sum", 0, 0), ("running", 0, "sum", 0, 0), ("stop", 1), ("number", 1, 4, 1),
                 ("store", 1, 1, 0)]
        self.assertEqual(row_of(play(one_round(steps, 6), 6, [1, 2, 3, 4, 5, 6]), 1), [1, 2, 3, 4, 5, 6])


class SeatSteps(unittest.TestCase):
    """Each step that lays a seat, stored under its own mask, on each number of lanes, group and kind of mask."""

    def lays(self, ahead, step, number_of, reads_of=None, many=6):
        # The mask's steps come first, then what lies ahead under mask 0, then the step itself under mask 1.
        for name, elements in ELEMENTS.items():
            for lanes in LANES:
                for group in GROUPS:
                    steps = MASKS[name] + ahead + [step, ("store", 1, step[1], 1)]
                    told = play(one_round(steps, many, group), lanes, [10 ** 6, 10 ** 6 + 1, 10 ** 6 + 2])
                    active = [at for at in range(many) if at in elements]
                    place = len(MASKS[name]) + len(ahead) + 1
                    with self.subTest(step=step, mask=name, lanes=lanes, group=group):
                        self.assertEqual(row_of(told, 1), [number_of(at) if at in active else 0 for at in range(6)])
                        self.assertEqual(told[0][:6] + told[0][12:], CELLS[:6] + CELLS[12:])
                        if reads_of is not None:
                            width = lanes * group
                            strips = [[at for at in active if at // width == strip] for strip in range(-(-many // width))]
                            self.assertEqual([touch for touch in told[2] if touch[0] >= place],
                                             [touch for strip in strips for touch in
                                              [(place, "read", address) for address in reads_of(strip)]
                                              + [(place + 1, "write", 6 + at) for at in strip]])

    def test_number(self):
        for number in (0, 7, HALF - 1, -HALF):
            self.lays([], ("number", 1, number, 1), lambda at: number, lambda strip: [])

    def test_here(self):
        self.lays([], ("here", 1, 1), lambda at: at, lambda strip: [])

    def test_load(self):
        self.lays([], ("load", 1, 0, 1), lambda at: 10 + at, lambda strip: strip)

    def test_spread(self):
        self.lays([], ("spread", 0, 2, 1), lambda at: 70, lambda strip: [12] if strip else [])
        self.lays([], ("spread", 0, 3, 1), lambda at: 30, lambda strip: [13] if strip else [])

    def test_shift(self):
        for by in (-400, -6, -2, 0, 1, 5, 6, 400):
            self.lays([], ("shift", 0, 0, by, -7, 1), lambda at: 10 + at + by if 0 <= at + by < 6 else -7,
                      lambda strip: [at + by for at in strip if 0 <= at + by < 6])
        self.lays([], ("shift", 0, 2, -2, -7, 1), lambda at: 70 if at == 2 else -7,
                  lambda strip: [12 for at in strip if at == 2])
        self.lays([], ("shift", 0, 3, -1, -7, 1), lambda at: 29 + at if 1 <= at < 4 else -7,
                  lambda strip: [12 + at for at in strip if 1 <= at < 4])

    def test_gather(self):
        places = [("here", 0, 0), ("number", 1, 3, 0), ("op", 0, "rest", 0, 1, 0)]
        for seat in (0, 1):
            self.lays(places, ("gather", seat, 0, 3, 1), lambda at: 30 + at % 3, lambda strip: [13 + at % 3 for at in strip])
        self.lays([("number", 0, 0, 0)], ("gather", 1, 0, 2, 1), lambda at: 70, lambda strip: [12 for at in strip])

    def test_op(self):
        ahead = [("load", 0, 0, 0), ("number", 1, 4, 0)]
        told = {"+": lambda a, b: a + b, "-": lambda a, b: a - b, "*": lambda a, b: a * b, "/": lambda a, b: a // b,
                "rest": lambda a, b: a % b, "least": min, "most": max, "<": lambda a, b: int(a < b),
                "=": lambda a, b: int(a == b), "&": lambda a, b: a & b, "|": lambda a, b: a | b,
                "^": lambda a, b: a ^ b}
        for sign in SIGNS:
            for seat in (0, 1):
                self.lays(ahead, ("op", seat, sign, 0, 1, 1), lambda at: told[sign](10 + at, 4), lambda strip: [])
                self.lays(ahead, ("op", seat, sign, 1, 0, 1), lambda at: told[sign](4, 10 + at), lambda strip: [])
        self.lays(ahead, ("op", 0, "*", 0, 0, 1), lambda at: (10 + at) ** 2, lambda strip: [])

    def test_pick(self):
        ahead = [("load", 0, 0, 0), ("number", 1, 12, 0), ("op", 1, "<", 0, 1, 0), ("choose", 15, 1, 0), ("here", 1, 0)]
        for seat in (0, 1):
            self.lays(ahead, ("pick", seat, 0, 1, 15, 1), lambda at: 10 + at if at < 2 else at, lambda strip: [])
            self.lays(ahead, ("pick", seat, 1, 0, 15, 1), lambda at: at if at < 2 else 10 + at, lambda strip: [])
            self.lays(ahead, ("pick", seat, 0, 1, 1, 1), lambda at: 10 + at, lambda strip: [])
            self.lays(ahead, ("pick", seat, 0, 0, 15, 1), lambda at: 10 + at, lambda strip: [])

    def test_copy(self):
        for seat in (0, 1):
            self.lays([("load", 1, 0, 0)], ("copy", seat, 1, 1), lambda at: 10 + at, lambda strip: [])

    def test_save_and_bring(self):
        for slot in (0, 59):
            self.lays([("load", 1, 0, 0), ("save", slot, 1, 0)], ("bring", 0, slot, 1), lambda at: 10 + at)

    def test_each_seat_of_each_group(self):
        for group in GROUPS:
            for lanes in LANES:
                seats = range(8 // group)
                steps = [("number", seat, seat + 1, 0) for seat in seats]
                for seat in seats:
                    told = play(one_round(steps + [("store", 1, seat, 0)], 6, group), lanes)
                    self.assertEqual(row_of(told, 1), [seat + 1] * 6)


class Slots(unittest.TestCase):
    def test_their_touches(self):
        for lanes in (1, 2, 64):
            for group in GROUPS:
                told = play(one_round([("load", 0, 0, 0), ("save", 59, 0, 0), ("bring", 0, 59, 0)], 2, group), lanes)
                first = 16 + 59 * 4 * lanes
                wanted = []
                width = min(2, lanes * group)
                for base in range(0, 2, width):
                    wanted += [(1, "read", base + lane) for lane in range(width)]
                    wanted += [(2, "write", first + lane) for lane in range(width)]
                    wanted += [(3, "read", first + lane) for lane in range(width)]
                self.assertEqual(told[2], wanted)

    def test_they_stay_from_strip_to_strip(self):
        steps = [("here", 0, 0), ("bring", 1, 5, 0), ("save", 5, 0, 0), ("store", 1, 1, 0)]
        self.assertEqual(row_of(play(one_round(steps), 2), 1), [0, 0, 0, 1, 2, 3])


class Faults(unittest.TestCase):
    def test_gather_and_its_kind(self):
        for lanes in LANES:
            for group in GROUPS:
                code = one_round([("here", 0, 0), ("gather", 0, 0, 3, 0), ("trim",), ("store", 1, 0, 0), ("stop", 7)],
                                 6, group)
                told = play(code, lanes, [1])
                self.assertEqual((row_of(told, 1), told[1]), ([30, 31, 32, 0, 0, 0], (7, 3, "outside")))
                self.assertEqual([touch[2] for touch in told[2] if touch[1] == "read"], [13, 14, 15])

    def test_op_and_its_kind(self):
        for sign in ("/", "rest"):
            for place in range(6):
                for lanes in LANES:
                    for group in GROUPS:
                        code = one_round([("here", 0, 0), ("number", 1, place, 0), ("op", 0, "-", 0, 1, 0),
                                          ("op", 0, sign, 1, 0, 0), ("trim",), ("here", 0, 0), ("store", 1, 0, 0),
                                          ("stop", 39)], 6, group)
                        told = play(code, lanes, [1])
                        self.assertEqual(told[1], (39, place, "nought"))
                        self.assertEqual(row_of(told, 1), [at if at < place else 0 for at in range(6)])

    def test_reach(self):
        for number, refused in ((0, False), (5, False), (6, True), (-1, True), (HALF - 1, True), (-HALF, True)):
            code = one_round([("number", 0, number, 0), ("reach", 0, 6, 0), ("trim",), ("stop", 2)])
            self.assertEqual(play(code, 3)[1], (2, 0, "outside") if refused else None)

    def test_under_a_mask_that_lacks_the_lane_nothing_faults(self):
        for step in (("gather", 3, 0, 3, 1), ("reach", 0, 3, 1), ("op", 3, "/", 0, 2, 1)):
            for name in MASKS:
                code = one_round(MASKS[name] + [("number", 0, 99, 0), ("number", 2, 0, 0), step, ("trim",), ("stop", 3)])
                places = [at for at in ELEMENTS[name] if at < 6]
                kind = "nought" if step[0] == "op" else "outside"
                self.assertEqual(play(code, 6)[1], (3, places[0], kind) if places else None)

    def test_the_first_fault_of_a_lane_stays_and_it_does_nothing_more(self):
        steps = [("here", 0, 0), ("number", 1, 0, 0), ("number", 2, 2, 0), ("reach", 0, 2, 0), ("op", 3, "/", 0, 1, 0),
                 ("gather", 0, 2, 2, 0), ("number", 0, 8, 0), ("store", 1, 0, 0), ("fold", 2, "sum", 0, 0),
                 ("any", 2, 0), ("trim",), ("stop", 5)]
        told = play(one_round(steps), 6)
        self.assertEqual((row_of(told, 1), told[1], told[2]), ([0] * 6, (5, 0, "nought"), []))
        # Only from the strip's third lane on did reach come first.
        told = play(one_round([("here", 0, 0), ("number", 1, 0, 0), ("reach", 0, 2, 0), ("trim",),
                               ("op", 3, "/", 0, 1, 0), ("stop", 5)]), 6)
        self.assertEqual(told[1], (5, 2, "outside"))

    def test_trim_cuts_at_the_least_lane(self):
        for cut in range(6):
            steps = [("here", 0, 0), ("reach", 0, cut, 0), ("trim",), ("number", 0, 9, 0), ("store", 1, 0, 0),
                     ("stop", 1)]
            told = play(one_round(steps, 6), 64)
            self.assertEqual((row_of(told, 1), told[1]), ([9] * cut + [0] * (6 - cut), (1, cut, "outside")))

    def test_lanes_above_the_least_go_on_without_a_trim(self):
        steps = [("here", 0, 0), ("number", 1, 1, 0), ("op", 1, "=", 0, 1, 0), ("reach", 1, 1, 0), ("store", 1, 0, 0),
                 ("stop", 1)]
        told = play(one_round(steps, 6), 64)
        self.assertEqual((row_of(told, 1), told[1]), ([0, 0, 2, 3, 4, 5], None))

    def test_stop_ends_the_play(self):
        code = one_round([("here", 0, 0), ("reach", 0, 3, 0), ("trim",), ("stop", 4), ("store", 1, 0, 0)], 6)
        code += one_round([("number", 0, 5, 0), ("store", 2, 0, 0)], 1)
        told = play(code, 2)
        self.assertEqual((row_of(told, 1), row_of(told, 2), told[1]), ([0, 1, 0, 0, 0, 0], [70], (4, 3, "outside")))


class MaskSteps(unittest.TestCase):
    def test_laid_by_the_mask_they_stand_under(self):
        for lanes in LANES:
            for group in GROUPS:
                steps = MASKS["some"] + [("load", 0, 0, 0), ("number", 1, 12, 0), ("op", 0, "<", 0, 1, 0),
                                         ("other", 1, 0, 1), ("here", 0, 0), ("store", 1, 0, 1)]
                self.assertEqual(row_of(play(one_round(steps, 6, group), lanes, [1, 2]), 1), [0, 0, 0, 3, 0, 5])

    def test_each_mask(self):
        for k in range(1, 16):
            steps = [("here", 0, 0), ("choose", k, 0, 0), ("store", 0, 0, k)]
            self.assertEqual(row_of(play(one_round(steps), 4, [1]), 0), [10, 1, 2, 3, 4, 5])
            steps = [("here", 0, 0), ("other", k, 0, 0), ("store", 0, 0, k)]
            self.assertEqual(row_of(play(one_round(steps), 4, [1]), 0), [0, 11, 12, 13, 14, 15])

    def test_a_lane_that_has_faulted_is_in_no_mask(self):
        code = one_round([("here", 0, 0), ("reach", 0, 1, 0), ("choose", 2, 0, 0), ("other", 3, 0, 0)], 2)
        code += one_round([("number", 0, 8, 0), ("store", 0, 0, 2), ("store", 1, 0, 3)], 2)
        told = play(code, 2)
        self.assertEqual((row_of(told, 0)[:2], row_of(told, 1)[:2]), ([10, 11], [8, 0]))


class Puts(unittest.TestCase):
    def test_the_least_lane_first(self):
        for lanes in LANES:
            for group in GROUPS:
                steps = [("here", 0, 0), ("number", 1, 2, 0), ("op", 1, "/", 0, 1, 0), ("put", 3, 1, 0, 0)]
                told = play(one_round(steps, 6, group), lanes)
                self.assertEqual(row_of(told, 3), [1, 3, 5])
                self.assertEqual(told[2], [(4, "write", 13 + at // 2) for at in range(6)])

    def test_under_a_mask(self):
        for name, behind in (("all", [3, 4, 5]), ("none", [30, 31, 32]), ("some", [3, 1, 5]), ("others", [0, 4, 2])):
            steps = MASKS[name] + [("here", 0, 0), ("number", 1, 3, 0), ("op", 1, "rest", 0, 1, 0), ("put", 3, 1, 0, 1)]
            self.assertEqual(row_of(play(one_round(steps), 4, [1]), 3), behind)


def in_order(fold, run, numbers):
    for number in numbers:
        if fold == "capped":
            run = max(-10 ** 9, min(10 ** 9, run + number))
        else:
            run = {"sum": run + number, "product": run * number, "least": min(run, number), "most": max(run, number),
                   "both": run & number, "either": run | number, "odd": run ^ number, "chain": 31 * run + number}[fold]
            run = (run + HALF) % (2 * HALF) - HALF
    return run


NUMBERS = [10 ** 9, 7, -3 * 10 ** 9, HALF - 1, -HALF, 5]


class FoldsAndRunnings(unittest.TestCase):
    def cells(self):
        return NUMBERS + CELLS[6:]

    def each(self):
        for fold in FOLDS:
            for name, elements in ELEMENTS.items():
                for lanes in LANES:
                    for group in GROUPS:
                        for picks in ([], [3, -1, 4]):
                            with self.subTest(fold=fold, mask=name, lanes=lanes, group=group):
                                yield fold, name, [at for at in range(6) if at in elements], lanes, group, picks

    def test_fold(self):
        for fold, name, active, lanes, group, picks in self.each():
            steps = MASKS[name] + [("load", 0, 0, 0), ("fold", 2, fold, 0, 1)]
            told = play(one_round(steps, 6, group), lanes, [1], picks, LENGTHS, self.cells())
            self.assertEqual(row_of(told, 2), [in_order(fold, 70, [NUMBERS[at] for at in active])])
            strips = {at // (lanes * group) for at in active}
            self.assertEqual([touch[1:] for touch in told[2] if touch[2] == 12],
                             [("read", 12), ("write", 12)] * len(strips))

    def test_running(self):
        for fold, name, active, lanes, group, picks in self.each():
            steps = MASKS[name] + [("load", 0, 0, 0), ("running", 1, fold, 0, 1)]
            told = play(one_round(steps, 6, group), lanes, [1], picks, LENGTHS, self.cells())
            wanted = [0] * 6
            for at, place in enumerate(active):
                numbers = [NUMBERS[element] for element in active[:at + 1]]
                wanted[place] = in_order(fold, numbers[0], numbers[1:])
            self.assertEqual(row_of(told, 1), wanted)
            self.assertEqual([touch[1:] for touch in told[2] if touch[2] >= 6], [("write", 6 + at) for at in active])

    def test_active_lanes_in_the_first_strip_alone(self):
        steps = [("here", 0, 0), ("number", 1, 2, 0), ("op", 1, "<", 0, 1, 0), ("choose", 1, 1, 0), ("load", 0, 0, 0),
                 ("fold", 2, "chain", 0, 1), ("running", 1, "chain", 0, 1)]
        told = play(one_round(steps), 2)
        self.assertEqual((row_of(told, 2), row_of(told, 1)), ([(70 * 31 + 10) * 31 + 11], [10, 321, 0, 0, 0, 0]))
        self.assertEqual(len([touch for touch in told[2] if touch[2] == 12]), 2)

    def test_active_lanes_in_the_last_strip_alone(self):
        steps = [("here", 0, 0), ("number", 1, 4, 0), ("op", 1, "<", 1, 0, 0), ("choose", 1, 1, 0), ("load", 0, 0, 0),
                 ("running", 1, "capped", 0, 1)]
        self.assertEqual(row_of(play(one_round(steps), 2), 1), [0, 0, 0, 0, 0, 15])

    def test_a_round_forgets_the_carried_number(self):
        code = one_round([("load", 0, 0, 0), ("running", 1, "sum", 0, 0)])
        self.assertEqual(row_of(play(code + code, 4), 1), [10, 21, 33, 46, 60, 75])

    def test_a_round_has_one_carried_number(self):
        steps = [("load", 0, 0, 0), ("running", 1, "sum", 0, 0), ("running", 0, "most", 0, 0)]
        told = play(one_round(steps), 2)
        self.assertEqual(row_of(told, 1), [10, 21, 33, 46, 60, 75])
        self.assertEqual(row_of(told, 0), [21, 21, 46, 46, 75, 75])

    def test_fold_into_a_longer_row(self):
        told = play(one_round([("here", 0, 0), ("fold", 3, "sum", 0, 0)]), 64)
        self.assertEqual((row_of(told, 3), told[2]), ([45, 31, 32], [(2, "read", 13), (2, "write", 13)]))


def look(row, many=6, group=1):
    return one_round([("load", 0, row, 0), ("any", 0, 0)], many, group)


def grow(row, many, number=1):
    return one_round([("load", 0, row, 0), ("number", 1, number, 0), ("op", 0, "+", 0, 1, 0), ("store", row, 0, 0)], many)


class Turns(unittest.TestCase):
    def turns(self, most, start, number=3, mask_steps=()):
        # One cell grows by one at each turn; the sign is raised once it is not 0.
        cells = list(CELLS)
        cells[12] = start
        code = [("turns",)] + grow(2, 1) + [("quiet",)] + look(2, 1) + [("till", most, number)]
        return play(code + one_round([("number", 0, 1, 0), ("store", 1, 0, 0)], 1), 2, [], [], LENGTHS, cells)

    def test_behind_the_first_turn(self):
        for most in (1, 2, 1000):
            told = self.turns(most, 0)
            self.assertEqual((row_of(told, 2), told[1], row_of(told, 1)[0]), ([1], None, 1))
        told = self.turns(5, -1)
        self.assertEqual((row_of(told, 2), told[1]), ([1], None))

    def test_flag_lowered_at_first_and_raised_stays(self):
        self.assertEqual(play([("turns",), ("till", 1, 0)])[1], (0, 1, "endless"))
        code = look(0) + [("turns",), ("till", 3, 0), ("turns",), ("till", 3, 0)]
        self.assertIsNone(play(code)[1])
        code = look(0) + look(1) + [("turns",), ("till", 3, 0)]
        self.assertIsNone(play(code)[1])
        code = look(0) + [("quiet",), ("turns",), ("till", 3, 8)]
        self.assertEqual(play(code)[1], (8, 3, "endless"))

    def count_down(self, most, start):
        # Cell 12 counts the turns; cell 0 of row 3 is raised where it reaches the start.
        code = ([("turns",)] + grow(2, 1)
                + one_round([("spread", 0, 2, 0), ("number", 1, start, 0), ("op", 0, "=", 0, 1, 0), ("store", 3, 0, 0)], 1)
                + [("quiet",)] + look(3, 1) + [("till", most, 6)])
        cells = list(CELLS)
        cells[12] = 0
        return play(code, 3, [], [], LENGTHS, cells)

    def test_behind_the_last_turn_allowed_and_beyond(self):
        for most in (1, 2, 7, 1000):
            told = self.count_down(most, most)
            self.assertEqual((row_of(told, 2), told[1]), ([most], None))
            told = self.count_down(most, most + 1)
            self.assertEqual((row_of(told, 2), told[1]), ([most], (6, most, "endless")))
        self.assertEqual(row_of(self.count_down(9, 4), 2), [4])

    def test_endless_ends_the_play(self):
        told = play([("turns",)] + grow(2, 1) + [("till", 4, 11)] + grow(2, 1))
        self.assertEqual((row_of(told, 2), told[1]), ([74], (11, 4, "endless")))

    def test_turns_within_turns(self):
        inner = [("turns",)] + grow(2, 1) + [("quiet",)] + one_round(
            [("spread", 0, 2, 0), ("number", 1, 3, 0), ("op", 0, "rest", 0, 1, 0), ("other", 1, 0, 0), ("number", 0, 1, 0),
             ("any", 0, 1)], 1) + [("till", 3, 1)]
        outer = [("turns",)] + inner + [("quiet",)] + one_round(
            [("spread", 0, 2, 0), ("number", 1, 82, 0), ("op", 0, "<", 1, 0, 0), ("any", 0, 0)], 1) + [("till", 5, 0)]
        told = play(outer)
        self.assertEqual((row_of(told, 2), told[1]), ([84], None))
        told = play(outer[:-1] + [("till", 4, 0)])
        self.assertEqual((row_of(told, 2), told[1]), ([81], (0, 4, "endless")))
        twice = play(inner + inner)
        self.assertEqual((row_of(twice, 2), twice[1]), ([75], None))

    def test_a_row_of_turns_begins_anew_each_time(self):
        inner = [("turns",)] + grow(2, 1) + [("quiet",)] + one_round(
            [("spread", 0, 2, 0), ("number", 1, 2, 0), ("op", 0, "rest", 0, 1, 0), ("any", 0, 0)], 1) + [("till", 2, 1)]
        outer = [("turns",)] + inner + [("quiet",), ("till", 6, 0)]
        told = play(outer)
        self.assertEqual((row_of(told, 2), told[1]), ([81], (0, 6, "endless")))

    def test_any_under_masks_and_beyond_the_width(self):
        for name, raised in (("all", True), ("none", False), ("some", True), ("others", False)):
            steps = MASKS[name] + [("here", 0, 0), ("number", 1, 3, 0), ("op", 0, "=", 0, 1, 0), ("any", 0, 1)]
            for lanes in LANES:
                for group in GROUPS:
                    code = one_round(steps, 6, group) + [("turns",), ("till", 1, 0)]
                    self.assertEqual(play(code, lanes, [1])[1], None if raised else (0, 1, "endless"))


def random_place(by, group):
    return by.randrange(8 // group), by.randrange(8 // group), by.randrange(8 // group)


def random_steps(by, group):
    p, q, r = random_place(by, group)
    m, k, s = by.choice((0, 0, 1, 2, 3)), by.choice((0, 1, 2, 3)), by.randrange(3)
    row = by.randrange(4)
    return by.choice((
        [("number", p, by.choice((0, 1, 2, -1, 5, HALF - 1)), m)], [("here", p, m)], [("load", p, by.randrange(2), m)],
        [("spread", p, row, m)], [("shift", p, row, by.randrange(-7, 8), 4, m)], [("gather", p, q, row, m)],
        [("op", p, by.choice(SIGNS), q, r, m)], [("op", p, by.choice(SIGNS), p, r, m)], [("pick", p, q, r, k, m)],
        [("copy", p, q, m)], [("bring", p, s, m)], [("save", s, p, m)], [("reach", p, by.randrange(1, 9), m)],
        [("trim",)], [("trim",), ("stop", by.randrange(40))], [("op", p, by.choice(("/", "rest")), q, r, m)],
        [("choose", by.randrange(1, 4), p, m)],
        [("other", by.randrange(1, 4), p, m)], [("store", by.randrange(2), p, m)],
        [("reach", q, LENGTHS[row], m), ("put", row, q, p, m)], [("fold", row, by.choice(FOLDS), p, m)],
        [("running", by.randrange(2), by.choice(FOLDS), p, m)], [("any", p, m)]))


def random_code(by, deep):
    code = []
    for _ in range(by.randrange(1, 4)):
        if deep and by.randrange(3) == 0:
            code += [("turns",)] + random_code(by, deep - 1) + [("till", by.randrange(1, 4), by.randrange(40))]
        elif by.randrange(6) == 0:
            code.append(("quiet",))
        else:
            group = by.choice(GROUPS)
            code.append(("begin", by.randrange(1, 7), group))
            for _ in range(by.randrange(12)):
                code += random_steps(by, group)
            code.append(("next",))
    return code


class BesideTheModel(unittest.TestCase):
    def test_any_code_whatever_it_reads(self):
        kinds = set()
        for seed in range(1500):
            by = random.Random(seed)
            code = random_code(by, 2)
            lanes = by.choice((1, 2, 3, 5, 64))
            dust = [by.randrange(-9, 10) for _ in range(by.randrange(8))]
            picks = [by.randrange(-9, 10) for _ in range(by.randrange(4))]
            told = play(code, lanes, dust, picks)
            kinds.add(told[1] and told[1][2])
            with self.subTest(seed=seed):
                self.assertEqual(told, Model(LENGTHS, CELLS, lanes, dust, strict=False).run(code))
        self.assertEqual(kinds, {None, "nought", "outside", "endless"})


if __name__ == "__main__":
    unittest.main()

"""Shortened code: points [1], [29] to [33]."""

import unittest

from helper import FOLDS, HALF, SEAT_WORDS, SEATS_READ, SIGNS, Coder, Model, Sower
from rowbreadth.machine import ran
from rowbreadth.plain import played
from rowbreadth.shortener import shortened
from rowbreadth.stepmaker import made

LENGTHS = Coder.LENGTHS
CELLS = [4, -2, 0, 9, 1, 0, 6, 1, 2, 3, 4, 5, 6, 0, 8, 7, 1, 2, 20, 2, 0, 1]
DUSTS = ([], [1], [-1, 0, 7, HALF - 1])
STAYING = ("begin", "next", "reach", "trim", "stop", "store", "put", "fold", "running", "any", "turns", "quiet", "till")
FORGETTING = ("store", "put", "fold", "running", "trim")


def laid_by(step):
    if step[0] in SEAT_WORDS:
        return ("seat", step[1])
    return {"choose": ("mask", step[-3]), "other": ("mask", step[-3]), "save": ("slot", step[-3])}.get(step[0]) \
        if len(step) > 3 else None


def read_by(step):
    told = {("seat", step[at]) for at in SEATS_READ.get(step[0], [])}
    if step[0] in SEAT_WORDS or step[0] in SEATS_READ:
        told.add(("mask", step[-1]))
    if step[0] == "pick":
        told.add(("mask", step[4]))
    if step[0] == "bring":
        told.add(("slot", step[2]))
    return told


def strips_of(code):
    """The steps of each round, without its begin and next."""
    strips, inside = [], False
    for step in code:
        if step[0] == "begin":
            strips.append([])
        elif step[0] == "next":
            inside = False
        elif inside:
            strips[-1].append(step)
        inside = inside or step[0] == "begin"
    return strips


def is_read_behind(strip, at):
    thing = laid_by(strip[at])
    for step in strip[at + 1:]:
        if thing in read_by(step):
            return True
        if laid_by(step) == thing and thing[0] != "slot":
            return False
    return False


def laid_for_nothing(strip):
    """The steps that [32] rules out."""
    return [step for at, step in enumerate(strip) if laid_by(step) is not None and not is_read_behind(strip, at)
            and step[0] != "gather" and not (step[0] == "op" and step[2] in ("/", "rest"))]


def is_second(strip, at):
    """Whether the step at that place is one that [33] rules out, for an earlier one in the same strip."""
    step, thing = strip[at], laid_by(strip[at])
    if thing is None or thing[0] == "slot" or thing in read_by(step):
        return False
    for other in reversed(strip[:at]):
        if other == step:
            return True
        if other[0] in FORGETTING or laid_by(other) in read_by(step) | {thing}:
            return False
    return False


def is_of_two_numbers(strip, at):
    if strip[at][0] != "op":
        return False
    numbers = []
    for seat in strip[at][3:5]:
        layers = [step for step in strip[:at] if laid_by(step) == ("seat", seat)]
        if not layers or layers[-1][0] != "number":
            return False
        numbers.append(layers[-1][2])
    return numbers[1] != 0 or strip[at][2] not in ("/", "rest")


def stands_for(short, step):
    return short == step or (step[0] == "op" and short[0] == "number" and (short[1], short[3]) == (step[1], step[5]))


def is_within(short, long, same=lambda left, right: left == right):
    """Whether the short list is the long one with some left out."""
    waiting = iter(long)
    return all(any(same(left, right) for right in waiting) for left in short)


class Shortening(unittest.TestCase):
    def well_told(self, code, short):
        """What [32] and [33] say of the steps, whatever they do."""
        self.assertLessEqual(len(short), len(code))
        self.assertEqual([step for step in short if step[0] in STAYING], [step for step in code if step[0] in STAYING])
        longs, shorts = strips_of(code), strips_of(short)
        self.assertEqual(len(longs), len(shorts))
        for long, told in zip(longs, shorts):
            may = [step for at, step in enumerate(long) if not is_second(long, at)]
            self.assertTrue(is_within(told, may, stands_for), (long, told))
            self.assertEqual(laid_for_nothing(told), [])
            self.assertEqual([step for at, step in enumerate(told) if is_of_two_numbers(told, at)], [])
            self.assertEqual(len([step for step in told if step[0] == "op"]) <=
                             len([at for at, step in enumerate(long) if step[0] == "op"
                                  and not is_of_two_numbers(long, at)]), True)

    def same(self, code, lengths=LENGTHS, cells=CELLS, lanes=(1, 2, 3, 20)):
        short = shortened(code)
        self.well_told(code, short)
        self.assertEqual(shortened(short), short)
        for at, many in enumerate(lanes):
            for dust in DUSTS:
                wanted = Model(lengths, cells, many, dust).run(code)
                got = ran(short, lengths, cells, many, dust, DUSTS[at % 3])
                self.assertEqual(got[:2], wanted[:2])
                self.assertTrue(is_within([touch[1:] for touch in got[2]], [touch[1:] for touch in wanted[2]]))
                self.assertEqual(got, Model(lengths, cells, many, dust).run(short))
        return short

    def strip(self, *steps, group=1, many=9):
        """What is told of these steps as a round of their own."""
        short = self.same([("begin", many, group)] + list(steps) + [("next",)])
        self.assertEqual((short[0], short[-1]), (("begin", many, group), ("next",)))
        return short[1:-1]

    def stay(self, *steps, group=1):
        self.assertEqual(self.strip(*steps, group=group), list(steps))


# What each step needs ahead of it: seat 1 with numbers of row 3's places, seat 2 with others, masks 1 and 2, slot 4.
AHEAD = [("load", 1, 1, 0), ("number", 2, 3, 0), ("op", 1, "rest", 1, 2, 0), ("here", 2, 0), ("choose", 1, 1, 0),
         ("other", 2, 1, 0), ("save", 4, 2, 0)]
# Each step that lays a seat or a mask, reading none of what it lays.
LAYING = [("number", 0, 7, 1), ("here", 0, 1), ("load", 0, 1, 1), ("spread", 0, 2, 1), ("shift", 0, 1, 2, 5, 1),
          ("gather", 0, 1, 3, 1), ("op", 0, "+", 1, 2, 1), ("op", 0, "/", 2, 1, 1), ("op", 0, "rest", 2, 1, 1),
          ("pick", 0, 1, 2, 2, 0), ("copy", 0, 1, 1), ("bring", 0, 4, 1), ("choose", 3, 2, 1), ("other", 3, 2, 1)]
# All that lies ahead is read at the end, so that it stays.
BEHIND = [("put", 3, 1, 2, 1), ("store", 0, 2, 2), ("bring", 3, 4, 0), ("store", 0, 3, 0)]


def may_refuse(step):
    return step[0] == "gather" or step[0] == "op" and step[2] in ("/", "rest")


def reading(step):
    """A step that reads what that one lays, and what is needed to see it."""
    return [("store", 0, 0, 1)] if laid_by(step)[0] == "seat" else [("store", 0, 2, 3)]


class LaidForNothing(Shortening):
    def test_each_step(self):
        for step in LAYING:
            with self.subTest(step=step):
                told = self.strip(*AHEAD, step, *BEHIND)
                self.assertEqual(told, AHEAD + ([step] if may_refuse(step) else []) + BEHIND)

    def test_each_step_that_is_read(self):
        for step in LAYING:
            with self.subTest(step=step):
                self.stay(*AHEAD, step, *reading(step), *BEHIND)

    def test_each_step_that_is_laid_again_ahead_of_its_reader(self):
        for step in LAYING:
            again = ("spread", 0, 3, 1) if laid_by(step)[0] == "seat" else ("other", 3, 1, 0)
            with self.subTest(step=step):
                told = self.strip(*AHEAD, step, again, *reading(step), *BEHIND)
                self.assertEqual(told, AHEAD + ([step] if may_refuse(step) else []) + [again] + reading(step) + BEHIND)

    def test_save(self):
        seen = [("here", 0, 0), ("store", 0, 0, 0)]
        self.assertEqual(self.strip(seen[0], ("save", 0, 0, 0), seen[1]), seen)
        self.assertEqual(self.strip(seen[0], ("save", 0, 0, 0), ("bring", 1, 0, 0), seen[1]), seen)
        self.stay(("here", 0, 0), ("save", 59, 0, 0), ("bring", 1, 59, 0), ("store", 0, 1, 0))
        self.assertEqual(self.strip(seen[0], ("save", 0, 0, 0), ("save", 1, 0, 0), ("bring", 1, 1, 0), ("store", 0, 1, 0)),
                         [seen[0], ("save", 1, 0, 0), ("bring", 1, 1, 0), ("store", 0, 1, 0)])
        # Brought only ahead of it.
        ahead = [seen[0], ("save", 0, 0, 0), ("bring", 1, 0, 0)]
        self.assertEqual(self.strip(*ahead, ("save", 0, 1, 0), ("store", 0, 1, 0)), ahead + [("store", 0, 1, 0)])

    def test_saved_twice_and_brought_behind_both(self):
        # A slot is brought by a later step of the strip, so the first of the saves may stay; it does.
        self.stay(("here", 0, 0), ("save", 0, 0, 0), ("load", 0, 1, 0), ("save", 0, 0, 0), ("bring", 1, 0, 0),
                  ("store", 0, 1, 0))

    def test_steps_laid_for_steps_that_are_left_out(self):
        seen = [("here", 7, 0), ("store", 0, 7, 0)]
        self.assertEqual(self.strip(("number", 0, 5, 0), ("here", 1, 0), ("op", 2, "+", 0, 1, 0), ("choose", 1, 2, 0),
                                    ("copy", 3, 2, 1), ("save", 3, 3, 1), ("bring", 4, 3, 1), ("pick", 4, 4, 3, 1, 1),
                                    *seen), seen)

    def test_a_dead_step_that_may_refuse_keeps_what_it_reads(self):
        for steps in ([("load", 0, 1, 0), ("gather", 1, 0, 3, 0), ("trim",), ("stop", 3)],
                      [("load", 0, 1, 0), ("choose", 1, 0, 0), ("here", 2, 0), ("op", 2, "rest", 2, 0, 1), ("trim",),
                       ("stop", 3)],
                      [("load", 0, 1, 0), ("here", 1, 0), ("op", 3, "/", 1, 0, 0), ("here", 2, 0), ("store", 0, 2, 0)]):
            self.stay(*steps)

    def test_nothing_but_dead_steps(self):
        self.assertEqual(self.strip(("number", 0, 5, 0), ("choose", 1, 0, 0), ("save", 0, 0, 1), ("bring", 0, 0, 1)), [])
        self.assertEqual(self.strip(), [])

    def test_the_steps_that_stay(self):
        self.stay(("here", 0, 0), ("reach", 0, 5, 0), ("trim",), ("trim",), ("stop", 3), ("stop", 4), ("store", 0, 0, 0),
                  ("store", 0, 0, 0), ("fold", 2, "sum", 0, 0), ("fold", 2, "sum", 0, 0), ("running", 1, "sum", 0, 0),
                  ("running", 1, "sum", 0, 0), ("any", 0, 0), ("any", 0, 0), ("reach", 0, 5, 0))


class Readers(Shortening):
    """A seat that is read by one step alone, each of those that can."""

    def test_seats(self):
        for behind in ([("store", 0, 0, 0)], [("fold", 2, "sum", 0, 0)], [("running", 1, "sum", 0, 0)], [("any", 0, 0)],
                       [("reach", 0, 3, 0)], [("reach", 0, 3, 0), ("put", 3, 0, 0, 0)],
                       [("number", 1, 2, 0), ("put", 3, 1, 0, 0)],
                       [("copy", 1, 0, 0), ("store", 0, 1, 0)], [("op", 1, "+", 0, 0, 0), ("store", 0, 1, 0)],
                       [("gather", 1, 0, 3, 0)], [("save", 0, 0, 0), ("bring", 1, 0, 0), ("store", 0, 1, 0)],
                       [("choose", 1, 0, 0), ("here", 1, 1), ("store", 0, 1, 1)],
                       [("other", 1, 0, 0), ("here", 1, 1), ("store", 0, 1, 1)],
                       [("trim",), ("stop", 2), ("store", 0, 0, 0)], [("trim",), ("any", 0, 0)]):
            self.stay(("load", 0, 1, 0), *behind)

    def test_the_step_that_lays_it_next(self):
        for again in (("copy", 0, 0, 0), ("op", 0, "+", 0, 0, 0), ("gather", 0, 0, 3, 0)):
            self.stay(("load", 0, 1, 0), again, ("store", 0, 0, 0))
        self.stay(("load", 0, 1, 0), ("number", 1, 2, 0), ("op", 0, "+", 1, 0, 0), ("store", 0, 0, 0))
        self.stay(("load", 0, 1, 0), ("choose", 1, 0, 0), ("here", 2, 1), ("choose", 1, 2, 1), ("store", 0, 2, 1))

    def test_pick_through_each_of_its_three(self):
        ahead = [("load", 0, 1, 0), ("choose", 1, 0, 0), ("here", 1, 1), ("other", 2, 0, 0), ("number", 2, 4, 2)]
        self.stay(*ahead, ("pick", 3, 1, 2, 1, 0), ("store", 0, 3, 0))
        for seat in (1, 2):
            self.stay(*ahead, ("pick", seat, 1, 2, 1, 0), ("store", 0, seat, 0))
        self.assertEqual(self.strip(*ahead, ("copy", 3, 0, 0), ("pick", 3, 3, 2, 1, 0), ("store", 0, 3, 0)),
                         ahead[:2] + ahead[3:] + [("copy", 3, 0, 0), ("pick", 3, 3, 2, 1, 0), ("store", 0, 3, 0)])

    def test_a_masks_readers(self):
        ahead = [("load", 0, 1, 0), ("choose", 1, 0, 0)]
        for behind in (("store", 0, 0, 1), ("fold", 2, "sum", 0, 1), ("running", 1, "sum", 0, 1), ("any", 0, 1),
                       ("reach", 0, 3, 1), ("gather", 1, 0, 3, 1), ("op", 1, "/", 0, 0, 1)):
            self.stay(*ahead, behind)
        for step in (("number", 1, 5, 1), ("here", 1, 1), ("load", 1, 0, 1), ("spread", 1, 2, 1), ("shift", 1, 0, 1, 5, 1),
                     ("copy", 1, 0, 1), ("op", 1, "+", 0, 0, 1), ("pick", 1, 0, 0, 1, 1)):
            self.stay(*ahead, step, ("store", 0, 1, 1))
        self.stay(*ahead, ("save", 0, 0, 1), ("bring", 0, 0, 1), ("store", 0, 0, 1))
        self.stay(*ahead, ("other", 2, 0, 1), ("store", 0, 0, 2))
        self.assertEqual(self.strip(*ahead, ("other", 2, 0, 0), ("store", 0, 0, 2)), [ahead[0], ("other", 2, 0, 0),
                                                                                    ("store", 0, 0, 2)])


class Rounds(Shortening):
    def test_each_is_for_itself(self):
        first = [("begin", 3, 2), ("here", 0, 0), ("number", 1, 5, 0), ("store", 0, 1, 0), ("next",)]
        second = [("begin", 9, 1), ("here", 0, 0), ("number", 1, 5, 0), ("store", 0, 0, 0), ("next",)]
        self.assertEqual(self.same(first + second), [first[0]] + first[2:] + second[:2] + second[3:])
        self.assertEqual(self.same(first + first), ([first[0]] + first[2:]) * 2)
        self.assertEqual(self.same(first[:1] + first[2:] + [("begin", 9, 1), ("number", 1, 5, 0), ("store", 1, 1, 0),
                                                           ("next",)])[-3], ("number", 1, 5, 0))

    def test_numbers_of_an_earlier_round_are_not_known(self):
        code = [("begin", 9, 1), ("number", 0, 5, 0), ("store", 0, 0, 0), ("next",), ("begin", 9, 1), ("load", 0, 0, 0),
                ("number", 1, 2, 0), ("op", 0, "+", 0, 1, 0), ("store", 0, 0, 0), ("next",)]
        self.assertEqual(self.same(code), code)

    def test_steps_outside(self):
        code = [("quiet",), ("turns",), ("quiet",), ("begin", 9, 4), ("here", 0, 0), ("here", 1, 0), ("any", 0, 0),
                ("next",), ("begin", 1, 1), ("number", 3, 1, 0), ("next",), ("turns",), ("turns",), ("quiet",),
                ("begin", 1, 1), ("number", 3, 1, 0), ("any", 3, 0), ("next",), ("till", 4, 7), ("till", 5, 6),
                ("till", 2, 5), ("quiet",), ("quiet",), ("turns",), ("till", 3, 9)]
        left = [5, 9]
        self.assertEqual(self.same(code), [step for at, step in enumerate(code) if at not in left])

    def test_no_code(self):
        self.assertEqual(shortened([]), [])
        self.assertEqual(shortened([("quiet",)]), [("quiet",)])
        self.assertEqual(shortened([("begin", 5, 1), ("next",)]), [("begin", 5, 1), ("next",)])

    def test_each_group(self):
        for group in (1, 2, 4):
            self.assertEqual(self.strip(("here", 1, 0), ("here", 0, 0), ("here", 0, 0), ("store", 0, 0, 0), group=group),
                             [("here", 0, 0), ("store", 0, 0, 0)])


class Twice(Shortening):
    def test_side_by_side(self):
        for step in LAYING:
            with self.subTest(step=step):
                told = self.strip(*AHEAD, step, step, *reading(step), *BEHIND)
                self.assertEqual(told, AHEAD + [step] + reading(step) + BEHIND)
                told = self.strip(*AHEAD, step, step, step, *reading(step), *BEHIND)
                self.assertEqual(told, AHEAD + [step] + reading(step) + BEHIND)

    def test_steps_between_that_change_nothing_of_it(self):
        between = [[("any", 1, 0)], [("reach", 1, 2, 0)], [("stop", 3)], [("save", 9, 2, 0), ("bring", 5, 9, 0), ("any", 5, 0)],
                   [("here", 5, 0), ("any", 5, 1)], [("choose", 9, 1, 0), ("any", 1, 9)], [("gather", 6, 1, 3, 0)],
                   [("any", 0, 1)]]
        for step in LAYING:
            for steps in between:
                if laid_by(step)[0] == "mask" and steps == between[-1]:
                    steps = [("any", 2, 3)]
                with self.subTest(step=step, between=steps):
                    told = self.strip(*AHEAD, step, *steps, step, *reading(step), *BEHIND)
                    self.assertEqual(told, AHEAD + [step] + steps + reading(step) + BEHIND)

    def test_steps_between_that_forget(self):
        for between in (("store", 1, 1, 0), ("put", 3, 1, 2, 1), ("fold", 2, "sum", 1, 0), ("running", 1, "sum", 1, 0),
                        ("trim",)):
            for step in LAYING:
                reader = ("any", 0, 1) if laid_by(step)[0] == "seat" else ("any", 2, 3)
                with self.subTest(step=step, between=between):
                    self.stay(*AHEAD, step, reader, between, step, *reading(step), *BEHIND)

    def test_cells_read_behind_steps_that_change_them(self):
        ahead = [("here", 1, 0), ("number", 2, 3, 0), ("op", 2, "rest", 1, 2, 0)]
        for row, between in ((1, ("store", 1, 1, 0)), (3, ("put", 3, 2, 1, 0)), (2, ("fold", 2, "sum", 1, 0)),
                             (1, ("running", 1, "sum", 1, 0))):
            steps = {1: [("load", 0, 1, 0), ("shift", 0, 1, 0, 5, 0)], 2: [("spread", 0, 2, 0), ("shift", 0, 2, -1, 5, 0)],
                     3: [("spread", 0, 3, 0), ("gather", 0, 2, 3, 0)]}[row]
            for step in steps:
                self.stay(*ahead, step, ("any", 0, 0), ("any", 2, 0), between, step, ("store", 0, 0, 0))

    def test_its_seat_or_mask_laid_between(self):
        for step in LAYING:
            again = ("spread", 0, 3, 1) if laid_by(step)[0] == "seat" else ("other", 3, 1, 0)
            reader = ("any", 0, 1) if laid_by(step)[0] == "seat" else ("any", 2, 3)
            with self.subTest(step=step):
                self.stay(*AHEAD, step, reader, again, reader, step, reader, *BEHIND)

    def test_what_it_reads_laid_between(self):
        seat1, seat2, mask1, mask2 = ("spread", 1, 2, 0), ("load", 2, 0, 0), ("other", 1, 2, 0), ("choose", 2, 2, 0)
        slot = ("save", 4, 1, 0)
        changed = {"gather": [seat1, mask1], "op": [seat1, seat2, mask1], "pick": [seat1, seat2, mask2],
                   "copy": [seat1, mask1], "bring": [slot, mask1], "choose": [seat2, mask1], "other": [seat2, mask1]}
        for step in LAYING:
            for between in changed.get(step[0], [mask1]):
                reader = ("any", 0, 1) if laid_by(step)[0] == "seat" else ("any", 2, 3)
                if step[0] == "pick":
                    reader = ("any", 0, 0)
                # What was laid last under the mask is read again only once it is laid under the new one.
                behind = [("any", 1, 0), ("any", 2, 0), ("bring", 3, 4, 0), ("any", 3, 0), ("any", 2, 1), ("any", 2, 2)]
                ahead = AHEAD + [("any", 1, 0), ("any", 2, 1), ("any", 2, 2), ("bring", 3, 4, 0), ("any", 3, 0)]
                with self.subTest(step=step, between=between):
                    told = self.strip(*ahead, step, reader, between, step, reader, *behind)
                    self.assertEqual(told.count(step), 2)

    def test_steps_that_read_what_they_lay(self):
        for step in (("op", 0, "+", 0, 1, 0), ("op", 0, "+", 1, 0, 0), ("gather", 0, 0, 3, 0), ("copy", 0, 0, 0),
                     ("pick", 0, 0, 1, 1, 0), ("pick", 0, 1, 0, 1, 0)):
            self.stay(("here", 1, 0), ("choose", 1, 1, 0), ("load", 0, 1, 0), step, step, ("store", 0, 0, 0),
                      ("store", 0, 1, 1))
        for word in ("choose", "other"):
            self.stay(("here", 0, 0), ("choose", 1, 0, 0), (word, 1, 0, 1), (word, 1, 0, 1), ("store", 0, 0, 1))

    def test_not_the_very_same(self):
        for first, second in ((("number", 0, 5, 0), ("number", 0, 6, 0)), (("load", 0, 0, 0), ("load", 0, 1, 0)),
                              (("shift", 0, 0, 1, 2, 0), ("shift", 0, 0, 1, 3, 0))):
            self.stay(first, ("any", 0, 0), second, ("any", 0, 0))
        self.stay(("here", 1, 0), ("choose", 1, 1, 0), ("load", 0, 0, 0), ("any", 0, 0), ("load", 0, 0, 1), ("any", 0, 1))

    def test_a_gather_that_refuses_in_the_first_already(self):
        for step in (("gather", 1, 0, 3, 0), ("op", 1, "/", 0, 0, 0)):
            told = self.strip(("load", 0, 1, 0), step, step, ("trim",), ("store", 0, 1, 0), ("stop", 3))
            self.assertEqual(told, [("load", 0, 1, 0), step, ("trim",), ("store", 0, 1, 0), ("stop", 3)])

    def test_a_save_twice(self):
        steps = [("here", 0, 0), ("save", 0, 0, 0), ("bring", 1, 0, 0), ("store", 0, 1, 0)]
        self.assertEqual(self.strip(*steps[:2], ("save", 0, 0, 0), *steps[2:]), steps)
        # Saved anew from another number, or behind another one, it is needed.
        self.stay(("here", 0, 0), ("save", 0, 0, 0), ("bring", 1, 0, 0), ("any", 1, 0), ("load", 0, 1, 0),
                  ("save", 0, 0, 0), ("bring", 1, 0, 0), ("store", 0, 1, 0))
        self.stay(("here", 0, 0), ("load", 1, 1, 0), ("save", 0, 0, 0), ("bring", 2, 0, 0), ("any", 2, 0),
                  ("save", 0, 1, 0), ("bring", 2, 0, 0), ("any", 2, 0), ("save", 0, 0, 0), ("bring", 2, 0, 0),
                  ("store", 0, 2, 0))


class OfTwoNumbers(Shortening):
    PAIRS = ((7, 2), (-7, 2), (7, -2), (0, 5), (HALF - 1, HALF - 1), (-HALF, -1), (-HALF, HALF - 1), (3, 3))

    def test_each_sign(self):
        for sign in SIGNS:
            for left, right in self.PAIRS:
                for seat in (0, 1, 2):
                    told = self.strip(("number", 0, left, 0), ("number", 1, right, 0), ("op", seat, sign, 0, 1, 0),
                                      ("store", 0, seat, 0))
                    self.assertEqual([step[0] for step in told], ["number", "store"])

    def test_one_seat_for_both(self):
        for sign in SIGNS:
            told = self.strip(("number", 0, 6, 0), ("op", 1, sign, 0, 0, 0), ("store", 0, 1, 0), ("store", 1, 0, 0))
            self.assertEqual([step[0] for step in told], ["number", "number", "store", "store"])

    def test_a_sign_that_refuses(self):
        for sign in ("/", "rest"):
            self.stay(("number", 0, 6, 0), ("number", 1, 0, 0), ("op", 2, sign, 0, 1, 0), ("trim",), ("store", 0, 2, 0),
                      ("stop", 4))
            self.stay(("number", 0, 0, 0), ("op", 0, sign, 0, 0, 0), ("number", 1, 5, 0), ("store", 0, 1, 0))
            self.assertEqual(self.strip(("number", 0, 0, 0), ("number", 1, 4, 0), ("op", 2, sign, 0, 1, 0)), [])

    def test_what_a_refusing_one_laid_is_no_known_number(self):
        steps = [("here", 3, 0), ("choose", 1, 3, 0), ("number", 0, 5, 0), ("number", 1, 0, 0), ("op", 0, "/", 0, 1, 1),
                 ("op", 2, "+", 0, 1, 1), ("store", 0, 2, 1)]
        self.stay(*steps)

    def test_chains_of_them(self):
        told = self.strip(("number", 0, 6, 0), ("number", 1, 7, 0), ("op", 0, "*", 0, 1, 0), ("op", 0, "-", 0, 1, 0),
                          ("op", 1, "+", 0, 1, 0), ("store", 0, 1, 0))
        self.assertEqual(told, [("number", 1, 42, 0), ("store", 0, 1, 0)])

    def test_a_number_that_is_laid_again(self):
        told = self.strip(("number", 0, 6, 0), ("number", 1, 7, 0), ("number", 0, 8, 0), ("op", 2, "*", 0, 1, 0),
                          ("store", 0, 2, 0))
        self.assertEqual(told, [("number", 2, 56, 0), ("store", 0, 2, 0)])
        for again in (("here", 0, 0), ("load", 0, 1, 0), ("copy", 0, 1, 0), ("spread", 0, 2, 0)):
            steps = [("number", 1, 7, 0), again, ("op", 2, "*", 0, 1, 0), ("store", 0, 2, 0)]
            told = self.strip(("number", 0, 6, 0), *steps)
            self.assertEqual(told, steps)

    def test_a_number_on_a_part_of_the_lanes(self):
        ahead = [("here", 3, 0), ("choose", 1, 3, 0)]
        told = self.strip(*ahead, ("number", 0, 6, 0), ("number", 1, 7, 1), ("op", 2, "*", 0, 1, 1), ("store", 0, 2, 1))
        self.assertEqual(told, ahead + [("number", 2, 42, 1), ("store", 0, 2, 1)])
        told = self.strip(*ahead, ("number", 0, 6, 0), ("number", 0, 5, 1), ("number", 1, 7, 1), ("op", 2, "*", 0, 1, 1),
                          ("store", 0, 2, 1))
        self.assertEqual(told, ahead + [("number", 2, 35, 1), ("store", 0, 2, 1)])

    def test_behind_steps_that_forget(self):
        told = self.strip(("number", 0, 6, 0), ("number", 1, 7, 0), ("store", 0, 0, 0), ("trim",), ("op", 2, "*", 0, 1, 0),
                          ("store", 1, 2, 0))
        self.assertEqual(told, [("number", 0, 6, 0), ("store", 0, 0, 0), ("trim",), ("number", 2, 42, 0), ("store", 1, 2, 0)])

    def test_of_one_number_alone(self):
        self.stay(("number", 0, 6, 0), ("here", 1, 0), ("op", 2, "*", 0, 1, 0), ("store", 0, 2, 0))
        self.stay(("number", 0, 6, 0), ("here", 1, 0), ("op", 2, "*", 1, 0, 0), ("store", 0, 2, 0))

    def test_brought_picked_and_copied_ones_are_read_well(self):
        self.strip(("number", 0, 6, 0), ("copy", 1, 0, 0), ("op", 2, "*", 0, 1, 0), ("store", 0, 2, 0))
        self.strip(("number", 0, 6, 0), ("save", 1, 0, 0), ("here", 0, 0), ("bring", 1, 1, 0), ("op", 2, "*", 0, 1, 0),
                   ("store", 0, 2, 0))

    def test_twice(self):
        told = self.strip(("number", 0, 6, 0), ("number", 1, 7, 0), ("op", 2, "*", 0, 1, 0), ("any", 2, 0),
                          ("op", 2, "*", 0, 1, 0), ("store", 0, 2, 0))
        self.assertEqual(told, [("number", 2, 42, 0), ("any", 2, 0), ("store", 0, 2, 0)])


class AnySoundCode(Shortening):
    def test_many(self):
        long = short = 0
        for seed in range(400):
            coder = Coder(seed)
            code = coder.code()
            with self.subTest(seed=seed):
                told = self.same(code, LENGTHS, coder.cells(), (coder.by.choice((1, 2)), coder.by.choice((3, 20))))
            long, short = long + len(code), short + len(told)
        self.assertLess(short, 0.8 * long)


class MadeAndShortened(Shortening):
    def check(self, sower, groups=(0, 1, 2, 4)):
        program, cells = sower.program(), sower.cells()
        told = played(program, cells)
        for group in groups:
            code = made(program, group)
            short = self.same(code, program.lengths, cells, (sower.by.choice((1, 2, 3, 64)),))
            for lanes in (1, 5):
                self.assertEqual(ran(short, program.lengths, cells, lanes, DUSTS[2], DUSTS[1])[:2], told)

    def test_many_programs(self):
        for seed in range(80):
            with self.subTest(seed=seed):
                self.check(Sower(seed))

    def test_programs_of_large_forms(self):
        for seed in range(5000, 5030):
            with self.subTest(seed=seed):
                self.check(Sower(seed, (1, 5, 9), (20, 40, 60)), (0, 4))

    def test_each_fold_stays(self):
        for fold in FOLDS:
            self.stay(("here", 0, 0), ("fold", 2, fold, 0, 0), ("running", 1, fold, 0, 0))


class HandedIn(unittest.TestCase):
    CODE = [("begin", 9, 1), ("number", 0, 6, 0), ("number", 1, 7, 0), ("here", 5, 0), ("op", 2, "*", 0, 1, 0),
            ("store", 0, 2, 0), ("next",)]

    def test_the_code_stays(self):
        code = list(self.CODE)
        told = shortened(code)
        self.assertEqual(code, self.CODE)
        self.assertIsNot(told, code)
        behind = list(told)
        code.clear()
        self.assertEqual(told, behind)

    def test_another_list_where_nothing_is_shorter(self):
        for code in ([], [("quiet",)], [("begin", 1, 1), ("here", 0, 0), ("store", 2, 0, 0), ("next",)]):
            told = shortened(code)
            self.assertEqual(told, code)
            self.assertIsNot(told, code)
            self.assertIs(type(told), list)

    def test_by_its_arguments_name(self):
        self.assertEqual(shortened(code=self.CODE), shortened(self.CODE))


if __name__ == "__main__":
    unittest.main()

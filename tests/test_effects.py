"""The steps of a strip that lay no seat, without the machine round them: points [22] to [27]."""

import random
import unittest

from helper import DUST, PATTERNS, STRIPS, bench_and_model, lay_all, lay_truths, seat_numbers, strip_of
from rowbreadth.bench import Bench
from rowbreadth.effects import has_effect, play_effect

HALF = 2 ** 63
FOLDS = ("sum", "product", "least", "most", "both", "either", "odd", "chain", "capped")
LENGTHS = [400, 1, 3]
CELLS = [1000 + at for at in range(400)] + [77] + [30, 31, 32]


def bench_at(strip, dust=DUST, picks=()):
    lanes, group, many, base = strip
    return strip_of(Bench(LENGTHS, CELLS, lanes, dust, list(picks)), group, many, base)


def joined(fold, run, number):
    # Written once more, so that a fault of the program's own joining would show too.
    if fold == "capped":
        return max(-10 ** 9, min(10 ** 9, run + number))
    told = {"sum": run + number, "product": run * number, "least": min(run, number), "most": max(run, number),
            "both": run & number, "either": run | number, "odd": run ^ number, "chain": 31 * run + number}[fold]
    return (told + HALF) % (2 * HALF) - HALF


class Each(unittest.TestCase):
    def cases(self, step, prepare):
        """The bench behind the step, its width before it, and the lanes that were active; for each strip and pattern."""
        for strip in STRIPS:
            for pattern in PATTERNS:
                bench = bench_at(strip)
                lay_truths(bench, step[-1], pattern)
                prepare(bench)
                width = bench.width
                active = [lane for lane in range(width) if pattern(lane) and lane not in bench.faults]
                seats = [seat_numbers(bench, seat) for seat in range(8 // bench.group)]
                play_effect(bench, step)
                with self.subTest(strip=strip, step=step, pattern=PATTERNS.index(pattern)):
                    self.assertEqual([seat_numbers(bench, seat) for seat in range(8 // bench.group)], seats)
                    yield bench, width, active


class Reach(Each):
    def test_numbers_outside_fault(self):
        numbers = [0, 6, 7, -1, HALF - 1, -HALF, 3]
        for bench, width, active in self.cases(("reach", 1, 7, 3),
                                               lambda bench: lay_all(bench, 1, lambda lane: numbers[lane % 7])):
            self.assertEqual(bench.faults, {lane: "outside" for lane in active if lane % 7 in (2, 3, 4, 5)})
            self.assertEqual((bench.width, bench.cut, bench.touches, bench.cells), (width, None, [], CELLS))

    def test_a_lane_that_has_faulted_keeps_its_fault(self):
        bench = bench_at((2, 1, 2, 0))
        bench.faults[0] = "nought"
        lay_all(bench, 0, lambda lane: 9)
        play_effect(bench, ("reach", 0, 1, 0))
        self.assertEqual(bench.faults, {0: "nought", 1: "outside"})


class TrimAndStop(unittest.TestCase):
    def test_without_a_fault(self):
        for strip in STRIPS:
            bench = bench_at(strip)
            width = bench.width
            play_effect(bench, ("trim",))
            play_effect(bench, ("stop", 4))
            self.assertEqual((bench.width, bench.begun, bench.cut, bench.refusal), (width, width, None, None))

    def test_at_the_least_lane_that_has_faulted(self):
        for faults, cut in (({0: "nought"}, 0), ({3: "outside", 1: "nought", 5: "outside"}, 1), ({5: "outside"}, 5)):
            bench = bench_at((3, 2, 12, 6))
            bench.faults.update(faults)
            play_effect(bench, ("trim",))
            self.assertEqual((bench.width, bench.begun, bench.cut, bench.refusal), (cut, 6, cut, None))
            self.assertEqual(bench.active_under(0), list(range(cut)))
            play_effect(bench, ("stop", 4))
            self.assertEqual(bench.refusal, (4, 6 + cut, faults[cut]))

    def test_stop_without_a_trim_ahead(self):
        bench = bench_at((3, 2, 12, 6))
        bench.faults[2] = "nought"
        play_effect(bench, ("stop", 4))
        self.assertIsNone(bench.refusal)

    def test_trimmed_twice(self):
        bench = bench_at((3, 2, 12, 6))
        bench.faults[4] = "nought"
        play_effect(bench, ("trim",))
        play_effect(bench, ("trim",))
        self.assertEqual((bench.width, bench.cut), (4, 4))
        bench.faults[1] = "outside"
        play_effect(bench, ("stop", 8))
        self.assertEqual(bench.refusal, (8, 10, "nought"))
        play_effect(bench, ("trim",))
        play_effect(bench, ("stop", 9))
        self.assertEqual((bench.width, bench.cut, bench.refusal), (1, 1, (9, 7, "outside")))


class Masks(Each):
    def numbers(self, bench):
        lay_all(bench, 1, lambda lane: [0, 5, -HALF][lane % 3])

    def test_choose_and_other(self):
        for word, wanted in (("choose", True), ("other", False)):
            for k in (1, 3, 15):
                for bench, width, active in self.cases((word, k, 1, 3), self.numbers):
                    below = [lane in active and (lane % 3 != 0) == wanted for lane in range(width)]
                    beyond = [DUST[at % len(DUST)] % 2 == 1 for at in range(bench.group * bench.lanes - width)]
                    self.assertEqual(bench.masks[k][:bench.group * bench.lanes], below + beyond)
                    self.assertEqual((bench.touches, bench.cells, bench.faults), ([], CELLS, {}))

    def test_lanes_that_have_faulted_are_false(self):
        for word in ("choose", "other"):
            def prepare(bench):
                lay_all(bench, 1, lambda lane: 1 if word == "choose" else 0)
                bench.faults.update({0: "nought", 2: "outside"})
            for bench, width, active in self.cases((word, 6, 1, 3), prepare):
                self.assertEqual(bench.masks[6][:width], [lane in active for lane in range(width)])

    def test_truths_beyond_the_groups_lanes_stay(self):
        bench = bench_at((2, 2, 4, 0))
        lay_truths(bench, 5, lambda lane: True)
        play_effect(bench, ("choose", 5, 0, 0))
        self.assertEqual(bench.masks[5], [False] * 4 + [True] * 4)

    def test_behind_a_trim_the_dust_begins_at_the_cut(self):
        bench = bench_at((3, 2, 12, 6), [1, 2, 3])
        lay_all(bench, 0, lambda lane: 1)
        bench.faults[2] = "nought"
        play_effect(bench, ("trim",))
        play_effect(bench, ("choose", 2, 0, 0))
        self.assertEqual(bench.masks[2][:6], [True, True, True, False, True, True])
        play_effect(bench, ("other", 2, 0, 0))
        self.assertEqual(bench.masks[2][:6], [False, False, False, True, True, False])


class Slots(Each):
    def test_save(self):
        for bench, width, active in self.cases(("save", 59, 1, 3), lambda bench: lay_all(bench, 1, lambda lane: -lane)):
            first = 404 + 59 * 4 * bench.lanes
            self.assertEqual(bench.touches, [(0, "write", first + lane) for lane in active])
            self.assertEqual([bench.read_slot(59, lane) for lane in range(4 * bench.lanes)],
                             [-lane if lane in active else 0 for lane in range(4 * bench.lanes)])
            self.assertEqual(bench.cells, CELLS)

    def test_lanes_that_are_not_active_keep_what_they_had(self):
        bench = bench_at((2, 1, 2, 0))
        lay_all(bench, 0, lambda lane: 5)
        play_effect(bench, ("save", 0, 0, 0))
        lay_all(bench, 0, lambda lane: 6)
        lay_truths(bench, 1, lambda lane: lane == 1)
        play_effect(bench, ("save", 0, 0, 1))
        self.assertEqual([bench.read_slot(0, lane) for lane in range(2)], [5, 6])


class Cells(Each):
    def test_store(self):
        for bench, width, active in self.cases(("store", 0, 1, 3), lambda bench: lay_all(bench, 1, lambda lane: -lane)):
            wanted = list(CELLS)
            for lane in active:
                wanted[bench.base + lane] = -lane
            self.assertEqual(bench.cells, wanted)
            self.assertEqual(bench.touches, [(0, "write", bench.base + lane) for lane in active])

    def test_put_the_least_lane_first(self):
        def prepare(bench):
            lay_all(bench, 0, lambda lane: -lane - 1)
            lay_all(bench, 1, lambda lane: (lane * 2) % 3)
        for bench, width, active in self.cases(("put", 2, 1, 0, 3), prepare):
            wanted = list(CELLS)
            for lane in active:
                wanted[401 + (lane * 2) % 3] = -lane - 1
            self.assertEqual(bench.cells, wanted)
            self.assertEqual(bench.touches, [(0, "write", 401 + (lane * 2) % 3) for lane in active])

    def test_put_of_its_own_place(self):
        bench = bench_at((2, 1, 2, 0))
        lay_all(bench, 0, lambda lane: 2 - lane)
        play_effect(bench, ("put", 2, 0, 0, 0))
        self.assertEqual(bench.cells[401:], [30, 1, 2])

    def test_lanes_that_have_faulted_do_nothing(self):
        for step in (("store", 0, 1, 0), ("put", 0, 1, 1, 0), ("save", 2, 1, 0)):
            bench = bench_at((3, 1, 3, 0))
            lay_all(bench, 1, lambda lane: lane)
            bench.faults[1] = "outside"
            play_effect(bench, step)
            first = 404 + 2 * 12 if step[0] == "save" else 0
            self.assertEqual(bench.touches, [(0, "write", first), (0, "write", first + 2)])


NUMBERS = [3, -5, 10 ** 9, HALF - 1, -10 ** 9, 6, -HALF, 0]


class Folds(Each):
    def test_each_fold(self):
        for fold in FOLDS:
            for bench, width, active in self.cases(
                    ("fold", 1, fold, 0, 3), lambda bench: lay_all(bench, 0, lambda lane: NUMBERS[lane % 8])):
                run = 77
                for lane in active:
                    run = joined(fold, run, NUMBERS[lane % 8])
                self.assertEqual(bench.cells, CELLS[:400] + [run] + CELLS[401:])
                self.assertEqual(bench.touches, [(0, "read", 400), (0, "write", 400)] if active else [])

    def test_into_cell_nought_of_a_longer_row(self):
        bench = bench_at((2, 1, 2, 0))
        lay_all(bench, 0, lambda lane: 4)
        play_effect(bench, ("fold", 2, "sum", 0, 0))
        self.assertEqual(bench.cells[401:], [38, 31, 32])

    def test_the_picks_show_nowhere(self):
        for fold in FOLDS:
            told = []
            for picks in ([], [0], [5, -3], [7, 2, 9, 100]):
                bench = bench_at((64, 4, 400, 0), DUST, picks)
                lay_all(bench, 0, lambda lane: NUMBERS[lane % 8] - lane)
                play_effect(bench, ("fold", 1, fold, 0, 0))
                told.append((bench.cells, bench.touches))
            self.assertEqual(told[1:], told[:-1])


class Runnings(Each):
    def test_each_fold_with_and_without_a_carried_number(self):
        for fold in FOLDS:
            for carried in (None, 0, -12345):
                def prepare(bench):
                    lay_all(bench, 0, lambda lane: NUMBERS[lane % 8])
                    bench.carried = carried
                for bench, width, active in self.cases(("running", 0, fold, 0, 3), prepare):
                    wanted, run = list(CELLS), carried
                    for lane in active:
                        number = NUMBERS[lane % 8]
                        run = number if run is None else joined(fold, run, number)
                        wanted[bench.base + lane] = run
                    self.assertEqual((bench.cells, bench.carried), (wanted, run))
                    self.assertEqual(bench.touches, [(0, "write", bench.base + lane) for lane in active])

    def test_over_several_strips_and_by_two_folds(self):
        bench = bench_at((2, 1, 6, 0))
        lay_all(bench, 0, lambda lane: 10)
        play_effect(bench, ("running", 0, "sum", 0, 0))
        bench.begin_strip(2)
        play_effect(bench, ("running", 0, "product", 0, 5))
        bench.begin_strip(4)
        play_effect(bench, ("running", 0, "chain", 0, 0))
        self.assertEqual(bench.cells[:6], [10, 20, 1002, 1003, 630, 19540])

    def test_capped_takes_the_first_number_as_it_is(self):
        bench = bench_at((2, 1, 2, 0))
        lay_all(bench, 0, lambda lane: 5 * 10 ** 9)
        play_effect(bench, ("running", 0, "capped", 0, 0))
        self.assertEqual(bench.cells[:2], [5 * 10 ** 9, 10 ** 9])


class Any(Each):
    def test_some_active_lane(self):
        for bench, width, active in self.cases(("any", 1, 3), lambda bench: lay_all(bench, 1, lambda lane: lane % 2)):
            self.assertEqual(bench.raised, any(lane % 2 for lane in active))
            self.assertEqual((bench.touches, bench.cells), ([], CELLS))

    def test_noughts_alone_lower_nothing(self):
        for raised in (False, True):
            bench = bench_at((2, 1, 2, 0))
            bench.raised = raised
            play_effect(bench, ("any", 0, 0))
            self.assertEqual(bench.raised, raised)

    def test_lanes_beyond_the_mask_and_faulted_lanes_do_not_count(self):
        bench = bench_at((3, 1, 2, 0))
        lay_all(bench, 0, lambda lane: lane)
        bench.faults[1] = "nought"
        play_effect(bench, ("any", 0, 0))
        self.assertFalse(bench.raised)


class TheWords(unittest.TestCase):
    def test_which_steps_have_an_effect(self):
        for word in ("reach", "trim", "stop", "choose", "other", "save", "store", "put", "fold", "running", "any"):
            self.assertTrue(has_effect(word))
        for word in ("number", "here", "load", "bring", "begin", "next", "turns", "quiet", "till"):
            self.assertFalse(has_effect(word))


def random_step(by, group):
    seat, mask = by.randrange(8 // group), by.randrange(16)
    word = by.choice(("reach", "trim", "choose", "other", "save", "store", "fold", "running", "any", "choose"))
    return {"reach": ("reach", seat, by.randrange(1, 30), mask), "trim": ("trim",),
            "choose": ("choose", by.randrange(1, 16), seat, mask), "other": ("other", by.randrange(1, 16), seat, mask),
            "save": ("save", by.randrange(60), seat, mask), "store": ("store", 0, seat, mask),
            "fold": ("fold", by.randrange(3), by.choice(FOLDS), seat, mask),
            "running": ("running", 0, by.choice(FOLDS), seat, mask), "any": ("any", seat, mask)}[word]


class BesideTheModel(unittest.TestCase):
    def test_many_steps_behind_one_another(self):
        for seed in range(60):
            by = random.Random(seed)
            bench, model = bench_and_model(by, LENGTHS, CELLS)
            lanes, group = bench.lanes, bench.group
            for seat in range(8 // group):
                for lane in range(group * lanes):
                    number = by.choice((0, 0, 1, 2, 5, 29, -1, HALF - 1))
                    bench.boxes.lay(group, seat, lane, number)
                    model.boxes[model.seat_place(seat, lane)] = number
            for at in range(30):
                step = random_step(by, group)
                bench.at = model.at = at
                play_effect(bench, step)
                model.play(step)
                with self.subTest(seed=seed, at=at, step=step):
                    self.assertEqual(bench.masks, [[model.masks.get((mask, lane), False) for lane in range(4 * lanes)]
                                                   for mask in range(16)])
                    self.assertEqual((bench.touches, bench.faults, bench.width, bench.cut, bench.cells),
                                     (model.touches, model.faults, model.width, model.cut, model.cells))
                    self.assertEqual((bench.raised, bench.carried), (model.flag, model.carried))


if __name__ == "__main__":
    unittest.main()

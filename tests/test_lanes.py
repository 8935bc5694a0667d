"""The steps that lay a seat, without the machine round them: points [18], [21], [22] and [27]."""

import random
import unittest

from helper import DUST, PATTERNS, SEAT_WORDS, STRIPS, bench_and_model, lay_all, lay_truths, seat_numbers, strip_of
from rowbreadth.bench import Bench
from rowbreadth.lanes import lays_seat, play_seat_step

SIGNS = ("+", "-", "*", "/", "rest", "least", "most", "<", "=", "&", "|", "^")
# A row of each length that the steps ask for: as long as the longest round, one cell, a few cells.
LENGTHS = [400, 1, 3]
CELLS = [1000 + at for at in range(400)] + [77] + [30, 31, 32]


def bench_at(strip, dust=DUST):
    lanes, group, many, base = strip
    return strip_of(Bench(LENGTHS, CELLS, lanes, dust, []), group, many, base)


class SeatStep(unittest.TestCase):
    def lays(self, strip, step, number_of, faulted=(), prepare=None):
        """For each pattern of the mask: the active lanes get their numbers, the others the dust, in order."""
        for pattern in PATTERNS:
            bench = bench_at(strip)
            lay_truths(bench, step[-1], pattern)
            if prepare is not None:
                prepare(bench)
            play_seat_step(bench, step)
            active = [lane for lane in range(bench.width) if pattern(lane)]
            wanted, used = [], 0
            for lane in range(bench.group * bench.lanes):
                if lane in active and lane not in faulted:
                    wanted.append(number_of(lane))
                else:
                    wanted.append(DUST[used % len(DUST)])
                    used += 1
            with self.subTest(strip=strip, step=step, pattern=PATTERNS.index(pattern)):
                self.assertEqual(seat_numbers(bench, step[1]), wanted)
                self.assertEqual(sorted(bench.faults), [lane for lane in faulted if lane in active])
            yield bench, active

    def each_strip(self, step_of, number_of, touches_of=None, prepare=None):
        for strip in STRIPS:
            base, last = strip[3], 8 // strip[1] - 1
            for bench, active in self.lays(strip, step_of(last), lambda lane: number_of(base, lane), (), prepare):
                addresses = touches_of(bench, active) if touches_of else []
                self.assertEqual(bench.touches, [(0, "read", address) for address in addresses])
                self.assertEqual(bench.cells, CELLS)


class EachStep(SeatStep):
    def test_number(self):
        for number in (0, -1, 2 ** 63 - 1, -(2 ** 63)):
            self.each_strip(lambda seat: ("number", seat, number, 2), lambda base, lane: number)

    def test_here(self):
        self.each_strip(lambda seat: ("here", seat, 15), lambda base, lane: base + lane)

    def test_load(self):
        self.each_strip(lambda seat: ("load", seat, 0, 2), lambda base, lane: 1000 + base + lane,
                        lambda bench, active: [bench.base + lane for lane in active])

    def test_spread_is_read_once_and_only_where_a_lane_is_active(self):
        self.each_strip(lambda seat: ("spread", seat, 1, 2), lambda base, lane: 77,
                        lambda bench, active: [400] if active else [])
        self.each_strip(lambda seat: ("spread", seat, 2, 2), lambda base, lane: 30,
                        lambda bench, active: [401] if active else [])

    def test_shift(self):
        for by in (-400, -5, -1, 0, 1, 3, 400):
            for row, length, start in ((0, 400, 0), (1, 1, 400), (2, 3, 401)):
                self.each_strip(
                    lambda seat: ("shift", seat, row, by, -9, 2),
                    lambda base, lane: CELLS[start + base + lane + by] if 0 <= base + lane + by < length else -9,
                    lambda bench, active: [start + bench.base + lane + by for lane in active
                                           if 0 <= bench.base + lane + by < length])

    def test_gather_within_the_row(self):
        for seat_of in (lambda seat: 0, lambda seat: seat):
            self.each_strip(
                lambda seat: ("gather", seat, seat_of(seat), 2, 2), lambda base, lane: 30 + (lane + 1) % 3,
                lambda bench, active: [401 + (lane + 1) % 3 for lane in active],
                lambda bench: lay_all(bench, seat_of(8 // bench.group - 1), lambda lane: (lane + 1) % 3))

    def test_pick(self):
        def prepare(bench):
            lay_all(bench, 0, lambda lane: lane)
            lay_all(bench, 1, lambda lane: -lane - 1)
            lay_truths(bench, 9, lambda lane: lane % 5 < 2)
        self.each_strip(lambda seat: ("pick", seat, 0, 1, 9, 2),
                        lambda base, lane: lane if lane % 5 < 2 else -lane - 1, None, prepare)
        self.each_strip(lambda seat: ("pick", 1, 1, 0, 9, 2),
                        lambda base, lane: -lane - 1 if lane % 5 < 2 else lane, None, prepare)

    def test_pick_by_the_mask_it_stands_under(self):
        def prepare(bench):
            lay_all(bench, 0, lambda lane: lane)
        self.each_strip(lambda seat: ("pick", 1, 0, 1, 2, 2), lambda base, lane: lane, None, prepare)

    def test_copy(self):
        def prepare(bench):
            lay_all(bench, 0, lambda lane: 5 - lane)
        self.each_strip(lambda seat: ("copy", seat, 0, 2), lambda base, lane: 5 - lane, None, prepare)
        self.each_strip(lambda seat: ("copy", 0, 0, 2), lambda base, lane: 5 - lane, None, prepare)

    def test_bring(self):
        def prepare(bench):
            for lane in range(0, 4 * bench.lanes, 2):
                bench.write_slot(59, lane, 900 + lane)
            bench.touches.clear()
        self.each_strip(lambda seat: ("bring", seat, 59, 2), lambda base, lane: 0 if lane % 2 else 900 + lane,
                        lambda bench, active: [404 + 59 * 4 * bench.lanes + lane for lane in active], prepare)

    def test_op_by_each_sign(self):
        numbers = [9, -9, 7, 2 ** 63 - 1, -(2 ** 63), 0]

        def prepare(bench):
            lay_all(bench, 0, lambda lane: numbers[lane % 6])
            lay_all(bench, 1, lambda lane: [4, -5][lane % 2])
        told = {"+": lambda a, b: (a + b + 2 ** 63) % 2 ** 64 - 2 ** 63, "-": lambda a, b: (a - b + 2 ** 63) % 2 ** 64
                - 2 ** 63, "*": lambda a, b: (a * b + 2 ** 63) % 2 ** 64 - 2 ** 63, "/": lambda a, b: a // b,
                "rest": lambda a, b: a % b, "least": min, "most": max, "<": lambda a, b: int(a < b),
                "=": lambda a, b: int(a == b), "&": lambda a, b: a & b, "|": lambda a, b: a | b,
                "^": lambda a, b: a ^ b}
        for sign in SIGNS:
            for seat in (0, 1):
                self.each_strip(lambda last: ("op", seat, sign, 0, 1, 2),
                                lambda base, lane: told[sign](numbers[lane % 6], [4, -5][lane % 2]), None, prepare)


class Faults(SeatStep):
    def test_gather_outside_of_the_row(self):
        for strip in STRIPS:
            places = {lane: [-1, 0, 2, 3, 1][lane % 5] for lane in range(256)}
            faulted = [lane for lane in range(256) if not 0 <= places[lane] < 3]
            for bench, active in self.lays(strip, ("gather", 1, 1, 2, 2), lambda lane: 30 + places[lane], faulted,
                                           lambda bench: lay_all(bench, 1, places.get)):
                self.assertEqual(set(bench.faults.values()), {"outside"} if bench.faults else set())
                self.assertEqual(bench.touches, [(0, "read", 401 + places[lane]) for lane in active
                                                 if lane not in faulted])

    def test_gather_far_outside(self):
        for number in (-(2 ** 63), 2 ** 63 - 1, -1, -3, 3, 400):
            for bench, active in self.lays((2, 2, 4, 0), ("gather", 0, 1, 2, 2), None, range(4),
                                           lambda bench: lay_all(bench, 1, lambda lane: number)):
                self.assertEqual(bench.touches, [])

    def test_op_by_nought(self):
        for sign in ("/", "rest"):
            def prepare(bench):
                lay_all(bench, 0, lambda lane: 8)
                lay_all(bench, 1, lambda lane: lane % 4)
            faulted = range(0, 256, 4)
            for strip in STRIPS:
                for bench, active in self.lays(
                        strip, ("op", 1, sign, 0, 1, 2),
                        lambda lane: 8 // (lane % 4) if sign == "/" else 8 % (lane % 4), faulted, prepare):
                    self.assertEqual(set(bench.faults.values()), {"nought"} if bench.faults else set())

    def test_the_other_signs_do_not_fault(self):
        for sign in SIGNS:
            if sign not in ("/", "rest"):
                bench = bench_at((2, 2, 4, 0))
                play_seat_step(bench, ("op", 0, sign, 0, 1, 0))
                self.assertEqual(bench.faults, {})

    def test_a_lane_that_has_faulted_gets_dust_reads_nothing_and_keeps_its_fault(self):
        for step in (("number", 1, 5, 0), ("here", 1, 0), ("load", 1, 0, 0), ("shift", 1, 0, 1, 4, 0),
                     ("gather", 1, 0, 2, 0), ("op", 1, "/", 0, 0, 0), ("pick", 1, 0, 0, 0, 0), ("copy", 1, 0, 0),
                     ("bring", 1, 3, 0)):
            bench = bench_at((2, 2, 400, 0), [111, 222])
            lay_all(bench, 0, lambda lane: 1)
            bench.faults[1] = bench.faults[2] = "first"
            play_seat_step(bench, step)
            told = seat_numbers(bench, 1)
            with self.subTest(step=step):
                self.assertEqual(told[1:3], [111, 222])
                self.assertNotIn(told[0], (111, 222))
                self.assertEqual(bench.faults, {1: "first", 2: "first"})
                self.assertIn(len(bench.touches), (0, 2))

    def test_spread_with_every_lane_faulted(self):
        bench = bench_at((2, 1, 2, 0))
        bench.faults[0] = bench.faults[1] = "nought"
        play_seat_step(bench, ("spread", 0, 1, 0))
        self.assertEqual((bench.touches, seat_numbers(bench, 0)), ([], DUST[:2]))


class TheDust(unittest.TestCase):
    def test_it_goes_on_from_step_to_step_and_round_again(self):
        bench = bench_at((2, 1, 3, 2), [1, 2, 3])
        play_seat_step(bench, ("number", 0, 50, 0))
        self.assertEqual(seat_numbers(bench, 0), [50, 1])
        play_seat_step(bench, ("number", 1, 60, 7))
        self.assertEqual(seat_numbers(bench, 1), [2, 3])
        play_seat_step(bench, ("here", 0, 0))
        self.assertEqual(seat_numbers(bench, 0), [2, 1])

    def test_the_other_seats_stay(self):
        bench = bench_at((3, 2, 6, 0))
        for seat in range(4):
            lay_all(bench, seat, lambda lane: 10 * seat + lane)
        play_seat_step(bench, ("number", 2, 5, 3))
        for seat in (0, 1, 3):
            self.assertEqual(seat_numbers(bench, seat), [10 * seat + lane for lane in range(6)])


class TheWords(unittest.TestCase):
    def test_which_steps_lay_a_seat(self):
        for word in SEAT_WORDS:
            self.assertTrue(lays_seat(word))
        for word in ("reach", "trim", "stop", "choose", "other", "save", "store", "put", "fold", "running", "any",
                     "begin", "next", "turns", "quiet", "till"):
            self.assertFalse(lays_seat(word))


def random_step(by, group):
    seat, mask = lambda: by.randrange(8 // group), by.randrange(16)
    word = by.choice(SEAT_WORDS)
    middle = {"number": (by.randrange(-3, 4),), "here": (), "load": (0,), "spread": (by.randrange(3),),
              "shift": (by.randrange(3), by.randrange(-5, 6), by.randrange(9)), "gather": (seat(), by.randrange(3)),
              "op": (by.choice(SIGNS), seat(), seat()), "pick": (seat(), seat(), by.randrange(16)),
              "copy": (seat(),), "bring": (by.randrange(4),)}[word]
    return (word, seat()) + middle + (mask,)


class BesideTheModel(unittest.TestCase):
    def test_many_steps_behind_one_another(self):
        for seed in range(60):
            by = random.Random(seed)
            bench, model = bench_and_model(by, LENGTHS, CELLS)
            lanes, group = bench.lanes, bench.group
            for mask in range(1, 16):
                truths = [by.randrange(3) > 0 for _ in range(4 * lanes)]
                bench.masks[mask] = list(truths)
                model.masks.update({(mask, lane): truth for lane, truth in enumerate(truths)})
            for at in range(40):
                step = random_step(by, group)
                bench.at = model.at = at
                play_seat_step(bench, step)
                model.play(step)
                with self.subTest(seed=seed, at=at, step=step):
                    for seat in range(8 // group):
                        self.assertEqual(seat_numbers(bench, seat), [
                            model.boxes.get(model.seat_place(seat, lane), 0) for lane in range(group * lanes)])
                    self.assertEqual((bench.touches, bench.faults), (model.touches, model.faults))


if __name__ == "__main__":
    unittest.main()

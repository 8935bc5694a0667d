"""What a bench has at first, and how its strips begin: points [1], [18], [20] and [27]."""

import unittest

from helper import DUST, STRIPS, lay_truths, seat_numbers
from rowbreadth.bench import Bench


def bench_of(lanes, dust=(), lengths=(3, 2), cells=(10, 11, 12, 20, 21)):
    return Bench(list(lengths), list(cells), lanes, list(dust), [])


class AtFirst(unittest.TestCase):
    def test_boxes_masks_slots_and_cells(self):
        for lanes in (1, 2, 64):
            bench = bench_of(lanes)
            self.assertEqual([bench.boxes.number_at(1, box, lane) for box in range(8) for lane in range(lanes)],
                             [0] * 8 * lanes)
            self.assertEqual(bench.masks, [[False] * (4 * lanes)] * 16)
            self.assertEqual([bench.read_slot(slot, lane) for slot in (0, 7, 59) for lane in range(4 * lanes)],
                             [0] * 12 * lanes)
            self.assertEqual(bench.cells, [10, 11, 12, 20, 21])
            self.assertEqual((bench.raised, bench.refusal, bench.carried), (False, None, None))

    def test_masks_are_lists_of_their_own(self):
        bench = bench_of(2)
        bench.masks[3][1] = True
        self.assertEqual(sum(sum(mask) for mask in bench.masks), 1)

    def test_what_is_handed_in_stays(self):
        lengths, cells, dust, picks = [3, 2], [10, 11, 12, 20, 21], [5, 6], [7, 8]
        bench = Bench(lengths, cells, 2, dust, picks)
        bench.open_round(3, 2)
        bench.lay_seat(1, [0], [9])
        bench.write_cell(1, 0, 99)
        bench.picks.taken()
        self.assertEqual((lengths, cells, dust, picks), ([3, 2], [10, 11, 12, 20, 21], [5, 6], [7, 8]))
        cells[0] = 0
        dust.clear()
        lengths.clear()
        self.assertEqual(bench.cells[0], 10)
        self.assertEqual(bench.lengths, [3, 2])
        self.assertNotEqual(bench.dust.taken(), 0)


class Strips(unittest.TestCase):
    def test_width_base_and_mask_nought(self):
        for lanes, group, many, base in STRIPS:
            with self.subTest(lanes=lanes, group=group, many=many, base=base):
                bench = bench_of(lanes, [3, 4, 6, 5, 8])
                bench.open_round(many, group)
                self.assertEqual((bench.base, bench.width), (0, min(many, group * lanes)))
                bench.dust.at = 0
                bench.begin_strip(base)
                width = min(many - base, group * lanes)
                self.assertEqual((bench.base, bench.width, bench.begun, bench.cut), (base, width, width, None))
                beyond = [[3, 4, 6, 5, 8][at % 5] % 2 == 1 for at in range(group * lanes - width)]
                self.assertEqual(bench.masks[0][:group * lanes], [True] * width + beyond)

    def test_odd_numbers_below_nought(self):
        bench = bench_of(2, [-1, -2, -3])
        bench.open_round(1, 2)
        self.assertEqual(bench.masks[0][:4], [True, True, False, True])

    def test_truths_beyond_the_groups_lanes_stay(self):
        bench = bench_of(2, [1])
        lay_truths(bench, 0, lambda lane: lane == 7)
        bench.open_round(1, 2)
        self.assertEqual(bench.masks[0], [True, True, True, True, False, False, False, True])

    def test_a_strip_forgets_faults_and_the_cut(self):
        bench = bench_of(2)
        bench.open_round(5, 1)
        bench.faults[1] = "outside"
        bench.cut = bench.width = 1
        bench.begin_strip(2)
        self.assertEqual((bench.faults, bench.cut, bench.width), ({}, None, 2))
        self.assertEqual(bench.active_under(0), [0, 1])

    def test_the_carried_number_is_forgotten_by_a_round_alone(self):
        bench = bench_of(2)
        bench.open_round(5, 1)
        bench.carried = 6
        bench.begin_strip(2)
        self.assertEqual(bench.carried, 6)
        bench.open_round(5, 1)
        self.assertIsNone(bench.carried)

    def test_boxes_stay_from_strip_to_strip(self):
        bench = bench_of(2)
        bench.open_round(5, 2)
        bench.lay_seat(1, [0, 1, 2, 3], [4, 5, 6, 7])
        bench.open_round(5, 1)
        self.assertEqual(seat_numbers(bench, 2) + seat_numbers(bench, 3), [4, 5, 6, 7])


class Active(unittest.TestCase):
    def test_below_the_width_true_and_not_faulted(self):
        bench = bench_of(3, [1])
        bench.open_round(5, 2)
        lay_truths(bench, 4, lambda lane: lane != 1)
        self.assertEqual(bench.active_under(4), [0, 2, 3, 4])
        self.assertEqual(bench.active_under(0), [0, 1, 2, 3, 4])
        self.assertEqual(bench.active_under(5), [])
        bench.faults[3] = "nought"
        self.assertEqual(bench.active_under(4), [0, 2, 4])
        bench.width = 3
        self.assertEqual(bench.active_under(4), [0, 2])


class Laid(unittest.TestCase):
    def test_lanes_without_a_number_get_dust_in_order(self):
        for lanes, group, many, base in STRIPS:
            bench = bench_of(lanes, DUST)
            bench.open_round(many, group)
            bench.dust.at = 0
            active = list(range(0, bench.width, 2))
            bench.lay_seat(8 // group - 1, active, [-lane - 1 for lane in active])
            wanted, used = [], 0
            for lane in range(group * lanes):
                if lane in active:
                    wanted.append(-lane - 1)
                else:
                    wanted.append(DUST[used % len(DUST)])
                    used += 1
            self.assertEqual(seat_numbers(bench, 8 // group - 1), wanted)

    def test_an_empty_dust_is_nought(self):
        bench = bench_of(3)
        bench.open_round(3, 1)
        bench.lay_seat(0, [1], [5])
        self.assertEqual(seat_numbers(bench, 0), [0, 5, 0])

    def test_a_number_of_nought_is_no_dust(self):
        bench = bench_of(2, [8])
        bench.open_round(2, 1)
        bench.lay_seat(0, [0], [0])
        self.assertEqual(seat_numbers(bench, 0), [0, 8])


class Touches(unittest.TestCase):
    def test_cells_and_slots(self):
        bench = bench_of(3)
        bench.at = 5
        self.assertEqual(bench.read_cell(1, 1), 21)
        bench.write_cell(0, 2, 7)
        bench.at = 6
        bench.write_slot(2, 11, 44)
        self.assertEqual(bench.read_slot(2, 11), 44)
        self.assertEqual(bench.read_slot(59, 0), 0)
        self.assertEqual(bench.touches, [(5, "read", 4), (5, "write", 2), (6, "write", 5 + 24 + 11),
                                         (6, "read", 5 + 24 + 11), (6, "read", 5 + 59 * 12)])
        self.assertEqual(bench.cells, [10, 11, 7, 20, 21])


if __name__ == "__main__":
    unittest.main()

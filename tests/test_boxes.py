import unittest

from rowbreadth.boxes import Boxes

GROUPS = (1, 2, 4)
LANES = (1, 2, 3, 5, 64)


def box_and_lane(lanes, group, seat, lane):
    # As the document words it.
    return (seat * group + lane // lanes, lane % lanes)


def seats_and_lanes(lanes, group):
    return [(seat, lane) for seat in range(8 // group) for lane in range(group * lanes)]


class AtFirst(unittest.TestCase):
    def test_all_are_nought(self):
        for lanes in LANES:
            for group in GROUPS:
                boxes = Boxes(lanes)
                for seat, lane in seats_and_lanes(lanes, group):
                    self.assertEqual(boxes.number_at(group, seat, lane), 0)

    def test_by_their_arguments_names(self):
        boxes = Boxes(lanes=2)
        boxes.lay(group=2, seat=1, lane=3, number=9)
        self.assertEqual(boxes.number_at(group=2, seat=1, lane=3), 9)


class LaidAndRead(unittest.TestCase):
    def test_each_seat_and_lane_by_itself(self):
        for lanes in (1, 2, 3):
            for group in GROUPS:
                for seat, lane in seats_and_lanes(lanes, group):
                    boxes = Boxes(lanes)
                    boxes.lay(group, seat, lane, -5)
                    for place in seats_and_lanes(lanes, group):
                        self.assertEqual(boxes.number_at(group, *place), -5 if place == (seat, lane) else 0)

    def test_all_of_them_and_read_by_each_group(self):
        for lanes in LANES:
            for group in GROUPS:
                boxes, laid = Boxes(lanes), {}
                for number, (seat, lane) in enumerate(seats_and_lanes(lanes, group), start=100):
                    boxes.lay(group, seat, lane, number)
                    laid[box_and_lane(lanes, group, seat, lane)] = number
                self.assertEqual(len(laid), 8 * lanes)
                for other in GROUPS:
                    for seat, lane in seats_and_lanes(lanes, other):
                        with self.subTest(lanes=lanes, group=group, other=other, seat=seat, lane=lane):
                            told = laid[box_and_lane(lanes, other, seat, lane)]
                            self.assertEqual(boxes.number_at(other, seat, lane), told)

    def test_some_by_hand(self):
        boxes = Boxes(3)
        boxes.lay(4, 1, 7, 11)
        self.assertEqual(boxes.number_at(1, 6, 1), 11)
        self.assertEqual(boxes.number_at(2, 3, 1), 11)
        boxes.lay(2, 3, 5, 12)
        self.assertEqual(boxes.number_at(1, 7, 2), 12)
        self.assertEqual(boxes.number_at(4, 1, 11), 12)
        boxes.lay(1, 1, 0, 13)
        self.assertEqual(boxes.number_at(2, 0, 3), 13)
        self.assertEqual(boxes.number_at(4, 0, 3), 13)

    def test_the_later_number_stays(self):
        boxes = Boxes(2)
        boxes.lay(1, 5, 1, 4)
        boxes.lay(4, 1, 3, 6)
        self.assertEqual(boxes.number_at(1, 5, 1), 6)

    def test_the_edges_of_what_is_kept(self):
        boxes = Boxes(1)
        for number in (-(2 ** 63), -1, 0, 1, 2 ** 63 - 1):
            boxes.lay(1, 7, 0, number)
            self.assertEqual(boxes.number_at(1, 7, 0), number)

    def test_two_sets_of_boxes_share_nothing(self):
        left, right = Boxes(2), Boxes(2)
        left.lay(1, 0, 0, 9)
        self.assertEqual(right.number_at(1, 0, 0), 0)


if __name__ == "__main__":
    unittest.main()

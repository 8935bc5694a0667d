import unittest

from rowbreadth.rows import part_of, start_of


class Starts(unittest.TestCase):
    def test_no_row_ahead(self):
        self.assertEqual(start_of([], 0), 0)
        self.assertEqual(start_of([5], 0), 0)
        self.assertEqual(start_of([5, 7], 0), 0)

    def test_several(self):
        lengths = [3, 1, 400, 2]
        self.assertEqual([start_of(lengths, row) for row in range(4)], [0, 3, 4, 404])

    def test_twelve_rows_of_the_greatest_length(self):
        lengths = [400] * 12
        self.assertEqual(start_of(lengths, 11), 4400)

    def test_behind_the_last_row_lies_the_number_of_all_cells(self):
        self.assertEqual(start_of([3, 1, 2], 3), 6)

    def test_lengths_stay(self):
        lengths = [3, 1, 2]
        start_of(lengths, 2)
        self.assertEqual(lengths, [3, 1, 2])


class Parts(unittest.TestCase):
    def test_one_row(self):
        self.assertEqual(part_of([3], [4, 5, 6], 0), [4, 5, 6])
        self.assertEqual(part_of([1], [9], 0), [9])

    def test_several(self):
        lengths = [2, 1, 3]
        cells = [10, 11, 20, 30, 31, 32]
        self.assertEqual(part_of(lengths, cells, 0), [10, 11])
        self.assertEqual(part_of(lengths, cells, 1), [20])
        self.assertEqual(part_of(lengths, cells, 2), [30, 31, 32])

    def test_all_rows_behind_one_another_are_the_cells(self):
        lengths = [400, 1, 7, 400]
        cells = list(range(808))
        parts = []
        for row in range(4):
            part = part_of(lengths, cells, row)
            self.assertEqual(len(part), lengths[row])
            self.assertEqual(part[0], start_of(lengths, row))
            parts.extend(part)
        self.assertEqual(parts, cells)

    def test_the_list_told_is_the_askers_own(self):
        cells = [4, 5, 6]
        for lengths in ([3], [1, 2]):
            part = part_of(lengths, cells, len(lengths) - 1)
            before = list(part)
            part.append(7)
            part[0] = 99
            self.assertEqual(cells, [4, 5, 6])
            self.assertEqual(part_of(lengths, cells, len(lengths) - 1), before)

    def test_nothing_done_later_changes_it(self):
        lengths = [3]
        cells = [4, 5, 6]
        part = part_of(lengths, cells, 0)
        cells[1] = 50
        cells.append(7)
        lengths[0] = 1
        self.assertEqual(part, [4, 5, 6])

    def test_lists_handed_in_stay(self):
        lengths = [2, 1]
        cells = [1, 2, 3]
        part_of(lengths, cells, 1)
        self.assertEqual((lengths, cells), ([2, 1], [1, 2, 3]))


if __name__ == "__main__":
    unittest.main()

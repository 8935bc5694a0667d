"""Free folds of whole lists: points [4] and [25]."""

import unittest

from rowbreadth.cuts import cut_join, doubled
from rowbreadth.feeds import Feed

HALF = 2 ** 63
FEEDS = ([], [0], [1], [-1], [5], [2, 0, 7], [-3, 4], [-(10 ** 30), 10 ** 30, 1], [1, 2, 3, 4, 5, 6, 7])
FOLDS = ("sum", "product", "least", "most", "both", "either", "odd")
LISTS = (
    [7], [-HALF], [0, 0], [3, -4], [-4, 3], [HALF - 1, 1], [-HALF, -1], [-HALF, -HALF], [5, -6, 7], [HALF - 1] * 3,
    [-HALF] * 3, [1, 2, 4, 8, 16], [HALF - 1, HALF - 1, -HALF, -HALF, 3, 0, -1], list(range(-5, 11)),
    list(range(1, 18)), [3 ** at % HALF for at in range(33)], [(-7) ** at % HALF - HALF // 2 for at in range(256)],
)


def kept(number):
    return (number + HALF) % (2 * HALF) - HALF


def join(fold, run, number):
    # Written once more, so that a fault of the program's own joining would show too.
    return {"sum": kept(run + number), "product": kept(run * number), "least": min(run, number),
            "most": max(run, number), "both": run & number, "either": run | number, "odd": run ^ number}[fold]


def in_order(fold, numbers):
    told = []
    for number in numbers:
        told.append(join(fold, told[-1], number) if told else number)
    return told


class CutJoin(unittest.TestCase):
    def test_the_same_as_in_order(self):
        for fold in FOLDS:
            for numbers in LISTS:
                for feed in FEEDS:
                    with self.subTest(fold=fold, numbers=numbers, feed=feed):
                        self.assertEqual(cut_join(fold, numbers, Feed(feed)), in_order(fold, numbers)[-1])

    def test_lists_of_each_length(self):
        for many in range(1, 70):
            numbers = [at * at - 40 for at in range(many)]
            self.assertEqual(cut_join("sum", numbers, Feed([3, 1, -2])), sum(numbers))

    def test_one_feed_used_again_and_again(self):
        feed = Feed([4, -9, 2])
        for numbers in LISTS:
            self.assertEqual(cut_join("odd", numbers, feed), in_order("odd", numbers)[-1])

    def test_the_list_handed_in_stays(self):
        for numbers in LISTS:
            handed = list(numbers)
            cut_join("sum", handed, Feed([1, 2]))
            self.assertEqual(handed, numbers)

    def test_by_its_arguments_names(self):
        self.assertEqual(cut_join(fold="most", numbers=[1, 3, 2], feed=Feed([1])), 3)


class Doubled(unittest.TestCase):
    def test_the_same_as_in_order(self):
        for fold in FOLDS:
            for numbers in LISTS:
                with self.subTest(fold=fold, numbers=numbers):
                    self.assertEqual(doubled(fold, numbers), in_order(fold, numbers))

    def test_lists_of_each_length(self):
        for many in range(70):
            numbers = [at * 3 - 50 for at in range(many)]
            self.assertEqual(doubled("sum", numbers), in_order("sum", numbers))

    def test_of_an_empty_list(self):
        for fold in FOLDS:
            self.assertEqual(doubled(fold, []), [])

    def test_the_list_handed_in_stays_and_another_is_told(self):
        for numbers in ([], [4], [4, 5], [4, 5, 6]):
            handed = list(numbers)
            told = doubled("sum", handed)
            self.assertEqual(handed, numbers)
            self.assertIs(type(told), list)
            self.assertIsNot(told, handed)
            behind = list(told)
            handed.append(9)
            handed[0] = 8
            self.assertEqual(told, behind)

    def test_by_its_arguments_names(self):
        self.assertEqual(doubled(fold="least", numbers=[3, 1, 2]), [3, 1, 1])


if __name__ == "__main__":
    unittest.main()

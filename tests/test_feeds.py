import unittest

from rowbreadth.feeds import Feed


def taken(feed, times):
    return [feed.taken() for _ in range(times)]


class Feeds(unittest.TestCase):
    def test_of_none(self):
        self.assertEqual(taken(Feed([]), 5), [0] * 5)

    def test_of_one(self):
        self.assertEqual(taken(Feed([7]), 4), [7] * 4)
        self.assertEqual(taken(Feed([0]), 2), [0] * 2)

    def test_of_several(self):
        self.assertEqual(taken(Feed([3, -1, 4]), 3), [3, -1, 4])
        self.assertEqual(taken(Feed([3, -1, 4]), 8), [3, -1, 4, 3, -1, 4, 3, -1])
        self.assertEqual(taken(Feed([1, 2]), 7), [1, 2, 1, 2, 1, 2, 1])

    def test_any_whole_numbers(self):
        numbers = [-(2 ** 63), 2 ** 63 - 1, 10 ** 30, -(10 ** 30)]
        self.assertEqual(taken(Feed(numbers), 5), numbers + numbers[:1])

    def test_asked_very_often(self):
        numbers = list(range(17))
        self.assertEqual(taken(Feed(numbers), 17 * 50 + 3), numbers * 50 + numbers[:3])

    def test_the_list_changed_behind_the_making(self):
        numbers = [3, 4]
        feed = Feed(numbers)
        numbers[0] = 30
        numbers.append(5)
        self.assertEqual(taken(feed, 3), [3, 4, 3])
        numbers.clear()
        self.assertEqual(taken(feed, 3), [4, 3, 4])

    def test_an_empty_list_that_is_filled_later(self):
        numbers = []
        feed = Feed(numbers)
        numbers.append(5)
        self.assertEqual(taken(feed, 2), [0, 0])

    def test_the_list_handed_in_stays(self):
        numbers = [3, 4, 5]
        taken(Feed(numbers), 10)
        self.assertEqual(numbers, [3, 4, 5])

    def test_two_feeds_of_one_list_go_each_their_own_way(self):
        numbers = [1, 2, 3]
        left, right = Feed(numbers), Feed(numbers)
        self.assertEqual(taken(left, 2), [1, 2])
        self.assertEqual(taken(right, 1), [1])
        self.assertEqual(taken(left, 2), [3, 1])
        self.assertEqual(taken(right, 2), [2, 3])

    def test_by_its_arguments_name(self):
        self.assertEqual(Feed(numbers=[6]).taken(), 6)


if __name__ == "__main__":
    unittest.main()

import unittest

from rowbreadth import errors

UNDER_ROW = ["ByNought", "Outside", "LineError"]
UNDER_LINE = ["BadText", "NoName", "Twice", "TooMany", "TooLong", "TooDeep", "Uneven", "Crossed"]
ALL = ["RowError"] + UNDER_ROW + UNDER_LINE


def told_above(name):
    if name == "RowError":
        return ["RowError"]
    if name in UNDER_ROW:
        return [name, "RowError"]
    return [name, "LineError", "RowError"]


class Classes(unittest.TestCase):
    def test_each_stands_under_just_those_told(self):
        for name in ALL:
            for other in ALL:
                with self.subTest(name=name, other=other):
                    under = issubclass(getattr(errors, name), getattr(errors, other))
                    self.assertEqual(under, other in told_above(name))

    def test_all_are_value_errors_and_of_no_further_kind(self):
        for name in ALL:
            with self.subTest(name=name):
                found = getattr(errors, name)
                self.assertEqual(found.__name__, name)
                self.assertTrue(issubclass(found, ValueError))
                own = [getattr(errors, above) for above in told_above(name)]
                self.assertEqual(list(found.__mro__), own + list(ValueError.__mro__))

    def test_they_are_taken_by_those_above_and_by_no_other(self):
        with self.assertRaises(errors.RowError):
            raise errors.ByNought("words")
        with self.assertRaises(errors.Outside):
            try:
                raise errors.Outside("words")
            except (errors.ByNought, errors.LineError):
                pass
        with self.assertRaises(errors.LineError):
            raise errors.Crossed(2)


class TheLine(unittest.TestCase):
    def test_every_line_refusal_has_its_line(self):
        for name in ["LineError"] + UNDER_LINE:
            with self.subTest(name=name):
                self.assertEqual(getattr(errors, name)(17).line, 17)

    def test_the_line_is_there_when_it_is_taken(self):
        try:
            raise errors.Twice(4)
        except errors.RowError as e:
            self.assertEqual(e.line, 4)


if __name__ == "__main__":
    unittest.main()

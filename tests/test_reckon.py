import itertools
import unittest
from fractions import Fraction
from math import floor

from rowbreadth.errors import ByNought
from rowbreadth.reckon import CAP, HALF, done, free, is_fold, is_sign, joined, kept

LOW = -(2 ** 63)
HIGH = 2 ** 63 - 1
WHOLE = 2 ** 64
EDGES = [LOW, LOW + 1, -(2 ** 62), -CAP - 1, -CAP, -7, -2, -1, 0, 1, 2, 7, CAP, CAP + 1, 2 ** 62, HIGH - 1, HIGH]
SIGNS = ["+", "-", "*", "/", "rest", "least", "most", "<", "=", "&", "|", "^"]
FREE = ["sum", "product", "least", "most", "both", "either", "odd"]
FOLDS = FREE + ["chain", "capped"]


def wrapped(number):
    # By bytes, so that nothing is shared with how the program reckons.
    low = (number % WHOLE).to_bytes(8, "little")
    return int.from_bytes(low, "little", signed=True)


def bits(number):
    return [(number >> k) & 1 for k in range(64)]


def of_bits(ones):
    return wrapped(sum(one << k for k, one in enumerate(ones)))


def by_bits(joining, left, right):
    return of_bits([joining(a, b) for a, b in zip(bits(left), bits(right))])


def told(sign, left, right):
    if sign in ("/", "rest"):
        whole = floor(Fraction(left, right))
        return wrapped(whole) if sign == "/" else left - whole * right
    return {
        "+": lambda: wrapped(left + right),
        "-": lambda: wrapped(left - right),
        "*": lambda: wrapped(left * right),
        "least": lambda: left if left < right else right,
        "most": lambda: right if left < right else left,
        "<": lambda: int(left < right),
        "=": lambda: int(left == right),
        "&": lambda: by_bits(lambda a, b: int(a + b == 2), left, right),
        "|": lambda: by_bits(lambda a, b: int(a + b > 0), left, right),
        "^": lambda: by_bits(lambda a, b: int(a + b == 1), left, right),
    }[sign]()


def told_fold(fold, run, number):
    if fold == "chain":
        return wrapped(31 * run + number)
    if fold == "capped":
        exact = run + number
        if exact > 10 ** 9:
            return 10 ** 9
        return -(10 ** 9) if exact < -(10 ** 9) else exact
    sign = {"sum": "+", "product": "*", "both": "&", "either": "|", "odd": "^"}.get(fold, fold)
    return told(sign, run, number)


class Kept(unittest.TestCase):
    def test_half_and_cap(self):
        self.assertEqual(HALF, 2 ** 63)
        self.assertEqual(CAP, 10 ** 9)
        self.assertIs(type(HALF), int)
        self.assertIs(type(CAP), int)

    def test_within(self):
        for number in EDGES:
            self.assertEqual(kept(number), number)

    def test_just_beyond(self):
        self.assertEqual(kept(HALF), -HALF)
        self.assertEqual(kept(HALF + 1), -HALF + 1)
        self.assertEqual(kept(-HALF - 1), HALF - 1)
        self.assertEqual(kept(-HALF - 2), HALF - 2)

    def test_far_beyond(self):
        self.assertEqual(kept(WHOLE), 0)
        self.assertEqual(kept(-WHOLE), 0)
        self.assertEqual(kept(WHOLE * 5 + HALF), -HALF)
        self.assertEqual(kept(-WHOLE * 5 - HALF - 1), HALF - 1)
        for many in (1, 2, 3, 10 ** 6, 10 ** 40, 7 ** 300):
            for number in EDGES:
                self.assertEqual(kept(number + many * WHOLE), number)
                self.assertEqual(kept(number - many * WHOLE), number)


class Signs(unittest.TestCase):
    def test_plain_ones(self):
        rows = [
            ("+", 3, 4, 7), ("-", 3, 4, -1), ("*", -3, 4, -12),
            ("/", 7, 2, 3), ("/", -7, 2, -4), ("/", 7, -2, -4), ("/", -7, -2, 3), ("/", 0, -5, 0), ("/", 6, -3, -2),
            ("rest", 7, 2, 1), ("rest", -7, 2, 1), ("rest", 7, -2, -1), ("rest", -7, -2, -1), ("rest", 6, -3, 0),
            ("least", -3, 2, -3), ("least", 2, -3, -3), ("most", -3, 2, 2), ("most", 2, -3, 2),
            ("<", -3, 2, 1), ("<", 2, 2, 0), ("<", 2, -3, 0), ("=", 2, 2, 1), ("=", 2, -2, 0),
            ("&", 12, 10, 8), ("|", 12, 10, 14), ("^", 12, 10, 6),
            ("&", -1, 10, 10), ("|", -4, 1, -3), ("^", -1, 10, -11),
        ]
        for sign, left, right, worth in rows:
            with self.subTest(sign=sign, left=left, right=right):
                self.assertEqual(done(sign, left, right), worth)

    def test_at_the_edges_of_what_is_kept(self):
        rows = [
            ("+", HIGH, 1, LOW), ("+", LOW, -1, HIGH), ("+", LOW, LOW, 0), ("+", HIGH, HIGH, -2),
            ("-", LOW, 1, HIGH), ("-", HIGH, -1, LOW), ("-", 0, LOW, LOW), ("-", -1, LOW, HIGH),
            ("*", LOW, -1, LOW), ("*", HIGH, HIGH, 1), ("*", LOW, LOW, 0), ("*", 2 ** 62, 2, LOW), ("*", HIGH, 2, -2),
            ("/", LOW, -1, LOW), ("/", LOW, 1, LOW), ("/", HIGH, -1, -HIGH), ("/", LOW, HIGH, -2), ("/", HIGH, LOW, -1),
            ("rest", LOW, -1, 0), ("rest", LOW, HIGH, HIGH - 1), ("rest", HIGH, LOW, -1), ("rest", LOW, LOW, 0),
            ("<", LOW, HIGH, 1), ("<", HIGH, LOW, 0), ("=", LOW, HIGH, 0),
            ("&", LOW, HIGH, 0), ("|", LOW, HIGH, -1), ("^", LOW, HIGH, -1), ("^", LOW, -1, HIGH),
        ]
        for sign, left, right, worth in rows:
            with self.subTest(sign=sign, left=left, right=right):
                self.assertEqual(done(sign, left, right), worth)

    def test_every_sign_over_all_edges(self):
        for sign, left, right in itertools.product(SIGNS, EDGES, EDGES):
            if sign in ("/", "rest") and right == 0:
                continue
            with self.subTest(sign=sign, left=left, right=right):
                answer = done(sign, left, right)
                self.assertIs(type(answer), int)
                self.assertEqual(answer, told(sign, left, right))
                self.assertTrue(LOW <= answer <= HIGH)

    def test_nought_on_the_right(self):
        for left in EDGES:
            for sign in SIGNS:
                with self.subTest(sign=sign, left=left):
                    if sign in ("/", "rest"):
                        with self.assertRaises(ByNought) as taken:
                            done(sign, left, 0)
                        self.assertIs(type(taken.exception), ByNought)
                    else:
                        self.assertEqual(done(sign, left, 0), told(sign, left, 0))

    def test_nought_on_the_left_refuses_nothing(self):
        for right in EDGES:
            if right != 0:
                self.assertEqual(done("/", 0, right), 0)
                self.assertEqual(done("rest", 0, right), 0)


class Folds(unittest.TestCase):
    def test_plain_ones(self):
        rows = [
            ("sum", 3, 4, 7), ("product", 3, -4, -12), ("least", 3, -4, -4), ("least", -4, 3, -4),
            ("most", 3, -4, 3), ("most", -4, 3, 3), ("both", 12, 10, 8), ("either", 12, 10, 14), ("odd", 12, 10, 6),
            ("chain", 2, 5, 67), ("chain", 5, 2, 157), ("chain", -1, 0, -31), ("capped", 3, -4, -1),
        ]
        for fold, run, number, worth in rows:
            with self.subTest(fold=fold, run=run, number=number):
                self.assertEqual(joined(fold, run, number), worth)

    def test_at_the_edges(self):
        rows = [
            ("sum", HIGH, 1, LOW), ("sum", LOW, -1, HIGH), ("product", LOW, -1, LOW), ("product", HIGH, HIGH, 1),
            ("chain", HIGH, HIGH, -32), ("chain", LOW, 0, LOW), ("chain", 2 ** 62, 0, -(2 ** 62)),
            ("capped", CAP, 0, CAP), ("capped", CAP - 1, 1, CAP), ("capped", CAP, 1, CAP), ("capped", CAP, -1, CAP - 1),
            ("capped", -CAP, 0, -CAP), ("capped", 1 - CAP, -1, -CAP), ("capped", -CAP, -1, -CAP),
            ("capped", -CAP, 1, 1 - CAP), ("capped", HIGH, HIGH, CAP), ("capped", LOW, LOW, -CAP),
            ("capped", HIGH, LOW, -1), ("capped", HIGH, 1, CAP), ("capped", LOW, -1, -CAP),
        ]
        for fold, run, number, worth in rows:
            with self.subTest(fold=fold, run=run, number=number):
                self.assertEqual(joined(fold, run, number), worth)

    def test_every_fold_over_all_edges(self):
        for fold, run, number in itertools.product(FOLDS, EDGES, EDGES):
            with self.subTest(fold=fold, run=run, number=number):
                answer = joined(fold, run, number)
                self.assertIs(type(answer), int)
                self.assertEqual(answer, told_fold(fold, run, number))
                self.assertTrue(LOW <= answer <= HIGH)

    def test_which_are_free(self):
        for fold in FOLDS:
            with self.subTest(fold=fold):
                self.assertIs(free(fold), fold in FREE)

    def test_free_ones_in_any_order_and_brackets(self):
        for numbers in ([LOW, -1, HIGH, 2], [HIGH, HIGH, 3, -5], [CAP, CAP, -CAP, 7], [LOW, LOW, 1, 6]):
            for fold in FREE:
                a, b, c, d = numbers
                first = joined(fold, joined(fold, joined(fold, a, b), c), d)
                for a, b, c, d in itertools.permutations(numbers):
                    pairs = joined(fold, joined(fold, a, b), joined(fold, c, d))
                    right = joined(fold, a, joined(fold, b, joined(fold, c, d)))
                    left = joined(fold, joined(fold, joined(fold, a, b), c), d)
                    with self.subTest(fold=fold, numbers=(a, b, c, d)):
                        self.assertEqual([pairs, right, left], [first] * 3)

    def test_the_others_are_led_by_order_or_brackets(self):
        self.assertNotEqual(joined("chain", 1, 2), joined("chain", 2, 1))
        early = joined("capped", joined("capped", CAP, CAP), -CAP)
        late = joined("capped", CAP, joined("capped", CAP, -CAP))
        self.assertEqual([early, late], [0, CAP])


class TheirWords(unittest.TestCase):
    def test_which_words_are_signs_and_folds(self):
        for word in SIGNS + FOLDS + ["", "a", "at", "Sum", "sums", "=="]:
            with self.subTest(word=word):
                self.assertIs(is_sign(word), word in SIGNS)
                self.assertIs(is_fold(word), word in FOLDS)


if __name__ == "__main__":
    unittest.main()

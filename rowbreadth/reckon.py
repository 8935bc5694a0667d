"""Kept numbers, the signs that join two of them, and the folds."""

from rowbreadth.errors import ByNought

# 2 ** 63 and 10 ** 9, written out since a module's top holds plain values alone.
HALF = 9223372036854775808
CAP = 1000000000


def kept(number):
    return (number + HALF) % (2 * HALF) - HALF


def plus(left, right):
    return kept(left + right)


def minus(left, right):
    return kept(left - right)


def times(left, right):
    return kept(left * right)


def refuse_nought(right):
    if right == 0:
        raise ByNought("the right number is 0")


def quotient(left, right):
    refuse_nought(right)
    # Only -HALF by -1 leaves what is kept.
    return kept(left // right)


def remainder(left, right):
    refuse_nought(right)
    # Python's own rest goes with its quotient before that is kept, and always lies within what is kept.
    return left % right


def lesser(left, right):
    return min(left, right)


def greater(left, right):
    return max(left, right)


def is_less(left, right):
    return 1 if left < right else 0


def is_equal(left, right):
    return 1 if left == right else 0


# Bits of kept numbers give kept numbers: the sign's bit goes along like every other one.
def bits_of_both(left, right):
    return left & right


def bits_of_either(left, right):
    return left | right


def bits_of_one(left, right):
    return left ^ right


def chained(run, number):
    return kept(31 * run + number)


def capped(run, number):
    return max(-CAP, min(CAP, run + number))


SIGNS = {
    "+": plus,
    "-": minus,
    "*": times,
    "/": quotient,
    "rest": remainder,
    "least": lesser,
    "most": greater,
    "<": is_less,
    "=": is_equal,
    "&": bits_of_both,
    "|": bits_of_either,
    "^": bits_of_one,
}

FREE_FOLDS = {
    "sum": plus,
    "product": times,
    "least": lesser,
    "most": greater,
    "both": bits_of_both,
    "either": bits_of_either,
    "odd": bits_of_one,
}

ORDERED_FOLDS = {"chain": chained, "capped": capped}


def is_sign(word):
    return word in SIGNS


def done(sign, left, right):
    return SIGNS[sign](left, right)


def free(fold):
    return fold in FREE_FOLDS


def is_fold(word):
    return free(word) or word in ORDERED_FOLDS


def joined(fold, run, number):
    if free(fold):
        return FREE_FOLDS[fold](run, number)
    return ORDERED_FOLDS[fold](run, number)

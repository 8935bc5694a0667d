"""Free folds over whole lists, joined in other orders than one number behind the other."""

from rowbreadth.reckon import joined


def halved(fold, numbers):
    told = [joined(fold, numbers[at - 1], numbers[at]) for at in range(1, len(numbers), 2)]
    if len(numbers) % 2 == 1:
        told.append(numbers[-1])
    return told


# The list is cut in two by the feed and its parts change places ahead of each halving; a free fold shows none of it.
def cut_join(fold, numbers, feed):
    left = list(numbers)
    while len(left) > 1:
        cut = feed.taken() % len(left)
        left = halved(fold, left[cut:] + left[:cut])
    return left[0]


# Behind each round a number has twice as many joined into it, itself and those ahead of it.
def doubled(fold, numbers):
    told = list(numbers)
    ahead = 1
    while ahead < len(told):
        later = [joined(fold, told[at - ahead], told[at]) for at in range(ahead, len(told))]
        told = told[:ahead] + later
        ahead = ahead * 2
    return told

"""Leaves out of a strip what is known already: steps that were done before, and ops of two known numbers."""

from rowbreadth.errors import ByNought
from rowbreadth.reckon import done
from rowbreadth.stepwords import laid_by, read_by

# Behind these a step may come to another number though it reads the same, or do so for fewer lanes.
FORGETTING = ("store", "put", "fold", "running", "trim")


# What still holds at a place of the strip. before: the steps whose seat or mask still has what they laid.
# numbers: the numbers in the seats that were last laid by a written number.
class Known:
    def __init__(self):
        self.before = {}
        self.numbers = {}


def is_touched_by(step, thing):
    return laid_by(step) == thing or thing in read_by(step)


def note_laid(known, step):
    thing = laid_by(step)
    if thing is not None:
        for earlier in list(known.before):
            if is_touched_by(earlier, thing):
                known.before.pop(earlier)
        if thing not in read_by(step):
            known.before[step] = True
    if step[0] in FORGETTING:
        known.before.clear()


def note_number(known, step):
    thing = laid_by(step)
    if step[0] == "number":
        known.numbers[thing] = step[2]
    elif thing in known.numbers:
        known.numbers.pop(thing)


def joined_numbers(sign, left, right):
    try:
        return done(sign, left, right)
    except ByNought:
        return None


# Every lane that is active here was active where the two numbers were laid, since the code reads good lanes alone.
def with_known_numbers(known, step):
    if step[0] != "op":
        return step
    left = known.numbers.get(("seat", step[3]))
    right = known.numbers.get(("seat", step[4]))
    if left is None or right is None:
        return step
    number = joined_numbers(step[2], left, right)
    if number is None:
        return step
    return ("number", step[1], number, step[5])


def without_known(strip):
    known = Known()
    told = []
    for step in strip:
        if step not in known.before:
            note_laid(known, step)
            shorter = with_known_numbers(known, step)
            note_number(known, shorter)
            told.append(shorter)
    return told

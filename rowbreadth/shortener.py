"""Shortens code: each round's strip by itself."""

from rowbreadth.dead import without_dead
from rowbreadth.known import without_known


# Again and again, since what is left out may leave a further step without a use, or known from before.
def strip_shortened(strip):
    told = without_dead(without_known(strip))
    while told != strip:
        strip = told
        told = without_dead(without_known(strip))
    return told


# Outside of rounds the strip stays empty, so a step there is told as it is.
def shortened(code):
    told = []
    strip = []
    in_round = False
    for step in code:
        if step[0] == "next":
            told.extend(strip_shortened(strip))
            strip = []
            in_round = False
        if in_round:
            strip.append(step)
        else:
            told.append(step)
        if step[0] == "begin":
            in_round = True
    return told

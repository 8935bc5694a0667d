"""The steps that lay a seat: what number each active lane gets, or how it faults."""

from rowbreadth.errors import ByNought
from rowbreadth.reckon import done


# Each of the functions below tells a list with the number of each active lane, None where the lane faults.
def numbers_written(bench, step, active):
    return [step[2]] * len(active)


def numbers_of_here(bench, step, active):
    return [bench.base + lane for lane in active]


def numbers_loaded(bench, step, active):
    return [bench.read_cell(step[2], bench.base + lane) for lane in active]


def numbers_spread(bench, step, active):
    if len(active) == 0:
        return []
    return [bench.read_cell(step[2], 0)] * len(active)


def number_shifted(bench, row, place, other):
    if 0 <= place < bench.lengths[row]:
        return bench.read_cell(row, place)
    return other


def numbers_shifted(bench, step, active):
    return [number_shifted(bench, step[2], bench.base + lane + step[3], step[4]) for lane in active]


def number_gathered(bench, row, place, lane):
    if 0 <= place < bench.lengths[row]:
        return bench.read_cell(row, place)
    bench.faults[lane] = "outside"
    return None


def numbers_gathered(bench, step, active):
    places = bench.numbers_in(step[2], active)
    return [number_gathered(bench, step[3], place, lane) for place, lane in zip(places, active)]


def number_joined(bench, sign, left, right, lane):
    try:
        return done(sign, left, right)
    except ByNought:
        bench.faults[lane] = "nought"
    return None


def numbers_joined(bench, step, active):
    lefts = bench.numbers_in(step[3], active)
    rights = bench.numbers_in(step[4], active)
    return [number_joined(bench, step[2], left, right, lane) for left, right, lane in zip(lefts, rights, active)]


def numbers_picked(bench, step, active):
    lefts = bench.numbers_in(step[2], active)
    rights = bench.numbers_in(step[3], active)
    truths = bench.masks[step[4]]
    return [left if truths[lane] else right for left, right, lane in zip(lefts, rights, active)]


def numbers_copied(bench, step, active):
    return bench.numbers_in(step[2], active)


def numbers_brought(bench, step, active):
    return [bench.read_slot(step[2], lane) for lane in active]


SEAT_STEPS = {
    "number": numbers_written,
    "here": numbers_of_here,
    "load": numbers_loaded,
    "spread": numbers_spread,
    "shift": numbers_shifted,
    "gather": numbers_gathered,
    "op": numbers_joined,
    "pick": numbers_picked,
    "copy": numbers_copied,
    "bring": numbers_brought,
}


def lays_seat(word):
    return word in SEAT_STEPS


def play_seat_step(bench, step):
    active = bench.active_under(step[-1])
    bench.lay_seat(step[1], active, SEAT_STEPS[step[0]](bench, step, active))

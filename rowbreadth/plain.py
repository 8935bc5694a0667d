"""The plain play: one step behind the other, one element behind the other."""

from rowbreadth.errors import ByNought, Outside
from rowbreadth.forms import Spot, cell_at, lies_in
from rowbreadth.reckon import joined
from rowbreadth.rows import part_of, start_of
from rowbreadth.steps import Fold, Put, Running, Till, count_of


def is_passed_over(spot, step):
    return step.test is not None and step.test.worth(spot) == 0


def number_to_lay(spot, step, run):
    number = step.value.worth(spot)
    if isinstance(step, Fold):
        return joined(step.fold, cell_at(spot, step.target, 0), number)
    if isinstance(step, Running) and run is not None:
        return joined(step.fold, run, number)
    return number


def place_put(spot, step):
    place = step.place.worth(spot)
    if not lies_in(spot, step.target, place):
        raise Outside("the place does not lie in the row")
    return place


def place_to_lay(spot, step):
    if isinstance(step, Fold):
        return 0
    if isinstance(step, Put):
        return place_put(spot, step)
    return spot.place


# Tells what the element had, since a Running hands that on to the next one; None stands for none as yet.
def element_played(spot, step, run):
    if is_passed_over(spot, step):
        return run
    number = number_to_lay(spot, step, run)
    place = place_to_lay(spot, step)
    spot.cells[start_of(spot.lengths, step.target) + place] = number
    return number


def elements_played(program, cells, step, number):
    run = None
    for place in range(step.many_of(program.lengths)):
        spot = Spot(program.lengths, program.functions, cells, place, [])
        try:
            run = element_played(spot, step, run)
        except ByNought:
            return (number, place, "nought")
        except Outside:
            return (number, place, "outside")
    return None


def till_played(program, cells, till, number):
    turns = 0
    while turns < till.most:
        refusal = steps_played(program, cells, till.steps, number + 1)
        if refusal is not None:
            return refusal
        turns = turns + 1
        if any(part_of(program.lengths, cells, till.target)):
            return None
    return (number, turns, "endless")


def steps_played(program, cells, steps, first):
    number = first
    for step in steps:
        if isinstance(step, Till):
            refusal = till_played(program, cells, step, number)
        else:
            refusal = elements_played(program, cells, step, number)
        if refusal is not None:
            return refusal
        number = number + count_of([step])
    return None


def played(program, cells):
    behind = list(cells)
    refusal = steps_played(program, behind, program.steps, 0)
    return (behind, refusal)

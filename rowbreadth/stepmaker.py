"""Makes the machine's code of a sound program: a round for each step with elements, turns for each Till."""

from rowbreadth.maker import Aim, Maker, make_form, make_two
from rowbreadth.needs import seats_for_step
from rowbreadth.steps import Fold, Let, Put, Till, count_of
from rowbreadth.stepwords import may_fault

TEST_MASK = 1


# The widest group that has seats enough, so that nothing need be put by in slots; none has more than group 1.
def group_for(seats):
    if seats <= 2:
        return 4
    if seats <= 4:
        return 2
    return 1


# Tells the mask of the elements that are not passed over.
def make_test(maker, step):
    if step.test is None:
        return 0
    make_form(maker, step.test, Aim(0, 0, 0, []))
    maker.code.append(("choose", TEST_MASK, 0, 0))
    return TEST_MASK


# Tells the step that lays what was made into the rows' cells.
def make_value(maker, step, mask):
    aim = Aim(0, mask, 0, [])
    if isinstance(step, Put):
        seats = make_two(maker, step.value, aim, step.place, aim)
        maker.code.append(("reach", seats[1], maker.lengths[step.target], mask))
        return ("put", step.target, seats[1], seats[0], mask)
    make_form(maker, step.value, aim)
    if isinstance(step, Let):
        return ("store", step.target, 0, mask)
    if isinstance(step, Fold):
        return ("fold", step.target, step.fold, 0, mask)
    return ("running", step.target, step.fold, 0, mask)


# The strip is trimmed ahead of its effect, so that nothing is done for the elements from the refused one on.
def round_of(program, step, number, group):
    if group == 0:
        group = group_for(seats_for_step(step, program.functions))
    maker = Maker(program.lengths, program.functions, group)
    maker.code.append(("begin", step.many_of(program.lengths), group))
    mask = make_test(maker, step)
    effect = make_value(maker, step, mask)
    if any([may_fault(made_step) for made_step in maker.code]):
        return maker.code + [("trim",), effect, ("stop", number), ("next",)]
    return maker.code + [effect, ("next",)]


def look_at(program, row, group):
    if group == 0:
        group = group_for(1)
    return [("begin", program.lengths[row], group), ("load", 0, row, 0), ("any", 0, 0), ("next",)]


# The sign is lowered behind the inner steps, since Tills among them may have left it raised.
def turns_of(program, till, number, group):
    inner = code_of(program, till.steps, number + 1, group)
    look = [("quiet",)] + look_at(program, till.target, group)
    return [("turns",)] + inner + look + [("till", till.most, number)]


def code_of(program, steps, first, group):
    code = []
    number = first
    for step in steps:
        if isinstance(step, Till):
            code.extend(turns_of(program, step, number, group))
        else:
            code.extend(round_of(program, step, number, group))
        number = number + count_of([step])
    return code


def made(program, group=0):
    return code_of(program, program.steps, 0, group)

"""How many seats a form or a step asks for where nothing of it is put by in a slot."""

from rowbreadth.forms import At, Call, Choice, Pair
from rowbreadth.steps import Put


# The first number keeps its seat while the second one is made behind it.
def seats_for_two(first, second, functions):
    return max(seats_for(first, functions), 1 + seats_for(second, functions))


# Handed numbers lie in slots, so a Call asks for no seats beside those of its parts.
def seats_for_call(form, functions):
    parts = form.handed + [functions[form.at][1]]
    return max([seats_for(part, functions) for part in parts])


def seats_for(form, functions):
    if isinstance(form, At):
        return seats_for(form.place, functions)
    if isinstance(form, Pair):
        return seats_for_two(form.left, form.right, functions)
    if isinstance(form, Choice):
        return max(seats_for(form.test, functions), seats_for_two(form.left, form.right, functions))
    if isinstance(form, Call):
        return seats_for_call(form, functions)
    return 1


def seats_for_step(step, functions):
    seats = seats_for(step.value, functions)
    if isinstance(step, Put):
        seats = seats_for_two(step.value, step.place, functions)
    if step.test is not None:
        seats = max(seats, seats_for(step.test, functions))
    return seats

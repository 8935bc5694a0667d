"""Makes the steps that lay a form's number in a seat."""

from rowbreadth.boxes import MANY_BOXES
from rowbreadth.forms import At, Call, Cell, Choice, Here, Number, Pair, Shifted
from rowbreadth.needs import seats_for

# Mask 0 is the strip's own and mask 1 that of the step's test; a Choice takes two of those from here on.
FIRST_CHOICE_MASK = 2


# The code of one round, so far. free_slot: the first of the slots that hold nothing now.
class Maker:
    def __init__(self, lengths, functions, group):
        self.lengths = lengths
        self.functions = functions
        self.seats = MANY_BOXES // group
        self.code = []
        self.free_slot = 0

    def put_by(self, seat, mask):
        slot = self.free_slot
        self.code.append(("save", slot, seat, mask))
        self.free_slot = slot + 1
        return slot


# Where a form's number is wanted: in which seat, under which mask. level: how many Choices it stands within.
# own: the slots of the numbers handed to the function it stands in.
class Aim:
    def __init__(self, seat, mask, level, own):
        self.seat = seat
        self.mask = mask
        self.level = level
        self.own = own


def cell_step(maker, form, aim):
    if maker.lengths[form.row] == 1:
        return ("spread", aim.seat, form.row, aim.mask)
    return ("load", aim.seat, form.row, aim.mask)


def leaf_step(maker, form, aim):
    if isinstance(form, Number):
        return ("number", aim.seat, form.number, aim.mask)
    if isinstance(form, Here):
        return ("here", aim.seat, aim.mask)
    if isinstance(form, Cell):
        return cell_step(maker, form, aim)
    if isinstance(form, Shifted):
        return ("shift", aim.seat, form.row, form.by, form.other, aim.mask)
    return ("bring", aim.seat, aim.own[form.at], aim.mask)


# Both aims name the same seat; the one behind it is used too. Tells in which seats the two numbers lie. The first one
# stays in its seat where the second one can be made in those behind it; else it is put by in a slot meanwhile.
def make_two(maker, first, first_aim, second, second_aim):
    seat = first_aim.seat
    make_form(maker, first, first_aim)
    if seat + 1 + seats_for(second, maker.functions) <= maker.seats:
        make_form(maker, second, Aim(seat + 1, second_aim.mask, second_aim.level, second_aim.own))
        return (seat, seat + 1)
    slot = maker.put_by(seat, first_aim.mask)
    make_form(maker, second, second_aim)
    maker.code.append(("bring", seat + 1, slot, first_aim.mask))
    maker.free_slot = slot
    return (seat + 1, seat)


def make_at(maker, form, aim):
    make_form(maker, form.place, aim)
    maker.code.append(("gather", aim.seat, aim.seat, form.row, aim.mask))


def make_pair(maker, form, aim):
    seats = make_two(maker, form.left, aim, form.right, aim)
    maker.code.append(("op", aim.seat, form.sign, seats[0], seats[1], aim.mask))


# Each of the two forms is made under a mask of its own, so it faults only where it is asked.
def make_choice(maker, form, aim):
    make_form(maker, form.test, aim)
    left = FIRST_CHOICE_MASK + 2 * aim.level
    right = left + 1
    maker.code.append(("choose", left, aim.seat, aim.mask))
    maker.code.append(("other", right, aim.seat, aim.mask))
    left_aim = Aim(aim.seat, left, aim.level + 1, aim.own)
    right_aim = Aim(aim.seat, right, aim.level + 1, aim.own)
    seats = make_two(maker, form.left, left_aim, form.right, right_aim)
    maker.code.append(("pick", aim.seat, seats[0], seats[1], left, aim.mask))


def make_call(maker, form, aim):
    first = maker.free_slot
    own = []
    for handed in form.handed:
        make_form(maker, handed, aim)
        own.append(maker.put_by(aim.seat, aim.mask))
    body = maker.functions[form.at][1]
    make_form(maker, body, Aim(aim.seat, aim.mask, aim.level, own))
    maker.free_slot = first


def make_form(maker, form, aim):
    if isinstance(form, At):
        make_at(maker, form, aim)
    elif isinstance(form, Pair):
        make_pair(maker, form, aim)
    elif isinstance(form, Choice):
        make_choice(maker, form, aim)
    elif isinstance(form, Call):
        make_call(maker, form, aim)
    else:
        maker.code.append(leaf_step(maker, form, aim))

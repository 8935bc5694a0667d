"""Leaves out of a strip the steps that lay what nobody reads."""

from rowbreadth.stepwords import laid_by, may_fault, read_by


# The strip is gone through from its end; read: what a step behind reads before it is laid anew.
def without_dead(strip):
    read = {}
    told = []
    for step in reversed(strip):
        thing = laid_by(step)
        if thing is None or may_fault(step) or read.get(thing, False):
            note_step(read, step, thing)
            told.append(step)
    told.reverse()
    return told


# A seat or a mask is laid anew on all lanes, a slot only on the active ones: what it had before may be brought still.
def note_step(read, step, thing):
    if thing is not None and thing[0] != "slot":
        read[thing] = False
    for other in read_by(step):
        read[other] = True

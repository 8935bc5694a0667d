"""What the steps of a strip lay and read, as tuples: ("seat", 3), ("mask", 1), ("slot", 59)."""

from rowbreadth.lanes import lays_seat

# Where in its tuple a step names the seats that it reads. Each step that lays or reads a seat has its own mask last.
SEATS_READ = {
    "gather": (2,),
    "op": (3, 4),
    "pick": (2, 3),
    "copy": (2,),
    "reach": (1,),
    "choose": (2,),
    "other": (2,),
    "save": (2,),
    "store": (2,),
    "put": (2, 3),
    "fold": (3,),
    "running": (3,),
    "any": (1,),
}


def laid_by(step):
    if lays_seat(step[0]):
        return ("seat", step[1])
    if step[0] in ("choose", "other"):
        return ("mask", step[1])
    if step[0] == "save":
        return ("slot", step[1])
    return None


def read_by(step):
    told = [("seat", step[at]) for at in SEATS_READ.get(step[0], ())]
    if step[0] == "pick":
        told.append(("mask", step[4]))
    if step[0] == "bring":
        told.append(("slot", step[2]))
    if lays_seat(step[0]) or step[0] in SEATS_READ:
        told.append(("mask", step[-1]))
    return told


def may_fault(step):
    return step[0] in ("gather", "reach") or (step[0] == "op" and step[2] in ("/", "rest"))

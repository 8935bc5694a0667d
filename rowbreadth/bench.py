"""The machine's bench: its boxes, masks, slots and cells, the dust, and the strip that is being played."""

from rowbreadth.boxes import Boxes
from rowbreadth.feeds import Feed
from rowbreadth.rows import start_of

MANY_MASKS = 16
# A seat takes at most four boxes together, so a mask or a slot has lanes for as many.
MOST_TOGETHER = 4


# at: the place of the step that is being played. opened: the place of the round's begin. begun: the width that the
# strip began with. faults: the fault of each lane that has one. cut: the lane at which the strip is cut, or None.
# carried: the round's carried number, or None. turns: tuples (place of the "turns", turns made), the innermost last.
class Bench:
    def __init__(self, lengths, cells, lanes, dust, picks):
        self.lengths = list(lengths)
        self.starts = [start_of(lengths, row) for row in range(len(lengths))]
        self.cells = list(cells)
        self.lanes = lanes
        self.boxes = Boxes(lanes)
        self.masks = [[False] * (MOST_TOGETHER * lanes) for mask in range(MANY_MASKS)]
        self.slots = {}
        self.dust = Feed(dust)
        self.picks = Feed(picks)
        self.touches = []
        self.at = 0
        self.opened = 0
        self.many = 0
        self.group = 1
        self.base = 0
        self.begun = 0
        self.width = 0
        self.faults = {}
        self.cut = None
        self.carried = None
        self.raised = False
        self.turns = []
        self.refusal = None

    def open_round(self, many, group):
        self.opened = self.at
        self.many = many
        self.group = group
        self.carried = None
        self.begin_strip(0)

    def begin_strip(self, base):
        self.base = base
        self.width = min(self.many - base, self.group * self.lanes)
        self.begun = self.width
        self.faults = {}
        self.cut = None
        self.lay_mask(0, list(range(self.width)))

    def active_under(self, mask):
        truths = self.masks[mask]
        return [lane for lane in range(self.width) if truths[lane] and lane not in self.faults]

    def numbers_in(self, seat, active):
        return [self.boxes.number_at(self.group, seat, lane) for lane in active]

    # A number of None is that of a lane which has just faulted.
    def lay_seat(self, seat, active, numbers):
        told = dict(zip(active, numbers))
        for lane in range(self.group * self.lanes):
            number = told.get(lane)
            if number is None:
                number = self.dust.taken()
            self.boxes.lay(self.group, seat, lane, number)

    def lay_mask(self, mask, chosen):
        truths = self.masks[mask]
        for lane in range(self.width):
            truths[lane] = False
        for lane in chosen:
            truths[lane] = True
        for lane in range(self.width, self.group * self.lanes):
            truths[lane] = self.dust.taken() % 2 == 1

    def touch(self, kind, address):
        self.touches.append((self.at, kind, address))

    def read_cell(self, row, place):
        address = self.starts[row] + place
        self.touch("read", address)
        return self.cells[address]

    def write_cell(self, row, place, number):
        address = self.starts[row] + place
        self.touch("write", address)
        self.cells[address] = number

    def address_in_slot(self, slot, lane):
        return len(self.cells) + slot * MOST_TOGETHER * self.lanes + lane

    # A slot lane that was never written is not kept: it is 0.
    def read_slot(self, slot, lane):
        address = self.address_in_slot(slot, lane)
        self.touch("read", address)
        return self.slots.get(address, 0)

    def write_slot(self, slot, lane, number):
        address = self.address_in_slot(slot, lane)
        self.touch("write", address)
        self.slots[address] = number

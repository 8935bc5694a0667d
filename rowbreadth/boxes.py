"""The machine's eight boxes, and their seats in a strip of a group."""

MANY_BOXES = 8


class Boxes:
    # One list, box behind box: so the lanes of a seat, whatever the group, stand behind one another too.
    def __init__(self, lanes):
        self.lanes = lanes
        self.numbers = [0] * (MANY_BOXES * lanes)

    def spot_of(self, group, seat, lane):
        return seat * group * self.lanes + lane

    def lay(self, group, seat, lane, number):
        self.numbers[self.spot_of(group, seat, lane)] = number

    def number_at(self, group, seat, lane):
        return self.numbers[self.spot_of(group, seat, lane)]

"""Forms, and their worths at a spot."""

from rowbreadth.errors import Outside
from rowbreadth.reckon import done
from rowbreadth.rows import start_of


class Spot:
    # The very lists are kept, so a spot made once sees what is put into the cells later.
    def __init__(self, lengths, functions, cells, place, own):
        self.lengths = lengths
        self.functions = functions
        self.cells = cells
        self.place = place
        self.own = own


def lies_in(spot, row, place):
    return 0 <= place < spot.lengths[row]


def cell_at(spot, row, place):
    return spot.cells[start_of(spot.lengths, row) + place]


class Form:
    pass


class Number(Form):
    def __init__(self, number):
        self.number = number

    def worth(self, spot):
        return self.number


class Here(Form):
    def worth(self, spot):
        return spot.place


class Cell(Form):
    def __init__(self, row):
        self.row = row

    def worth(self, spot):
        if spot.lengths[self.row] == 1:
            return cell_at(spot, self.row, 0)
        return cell_at(spot, self.row, spot.place)


class Shifted(Form):
    def __init__(self, row, by, other):
        self.row = row
        self.by = by
        self.other = other

    def worth(self, spot):
        place = spot.place + self.by
        if lies_in(spot, self.row, place):
            return cell_at(spot, self.row, place)
        return self.other


class Local(Form):
    def __init__(self, at):
        self.at = at

    def worth(self, spot):
        return spot.own[self.at]


class At(Form):
    def __init__(self, row, place):
        self.row = row
        self.place = place

    def worth(self, spot):
        place = self.place.worth(spot)
        if not lies_in(spot, self.row, place):
            raise Outside("the place does not lie in the row")
        return cell_at(spot, self.row, place)


class Pair(Form):
    def __init__(self, sign, left, right):
        self.sign = sign
        self.left = left
        self.right = right

    def worth(self, spot):
        left = self.left.worth(spot)
        right = self.right.worth(spot)
        return done(self.sign, left, right)


class Choice(Form):
    def __init__(self, test, left, right):
        self.test = test
        self.left = left
        self.right = right

    def worth(self, spot):
        if self.test.worth(spot) != 0:
            return self.left.worth(spot)
        return self.right.worth(spot)


class Call(Form):
    def __init__(self, at, handed):
        self.at = at
        self.handed = list(handed)

    def worth(self, spot):
        own = [form.worth(spot) for form in self.handed]
        body = spot.functions[self.at][1]
        return body.worth(Spot(spot.lengths, spot.functions, spot.cells, spot.place, own))

"""Where the rows lie in the one list of all cells."""


def start_of(lengths, row):
    return sum(lengths[:row])


def part_of(lengths, cells, row):
    return cells[start_of(lengths, row):start_of(lengths, row + 1)]

"""Plays a text, plainly or on the machine, and tells its rows by their names."""

from rowbreadth.machine import ran
from rowbreadth.plain import played
from rowbreadth.reader import read
from rowbreadth.rows import part_of
from rowbreadth.shortener import shortened
from rowbreadth.stepmaker import made


def first_cells(source, starts):
    cells = []
    for name, length in zip(source.names, source.program.lengths):
        cells.extend(starts.get(name, [0] * length))
    return cells


def by_line(source, refusal):
    if refusal is None:
        return None
    return (source.lines[refusal[0]], refusal[1], refusal[2])


def told_by_names(source, cells, refusal):
    lengths = source.program.lengths
    rows = [(name, part_of(lengths, cells, row)) for row, name in enumerate(source.names)]
    return (rows, by_line(source, refusal))


def plainly(text, starts):
    source = read(text)
    told = played(source.program, first_cells(source, starts))
    return told_by_names(source, told[0], told[1])


def answers(text, starts, lanes, dust, picks, group=0, short=True):
    source = read(text)
    code = made(source.program, group)
    if short:
        code = shortened(code)
    told = ran(code, source.program.lengths, first_cells(source, starts), lanes, dust, picks)
    return told_by_names(source, told[0], told[1])

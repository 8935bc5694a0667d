"""The machine: it plays code on its lanes, and tells the cells, the refusal and the touches."""

from rowbreadth.bench import Bench
from rowbreadth.effects import has_effect, play_effect
from rowbreadth.lanes import lays_seat, play_seat_step


# Each of the functions below tells the place of the step that is played next.
def play_begin(bench, step):
    bench.open_round(step[1], step[2])
    return bench.at + 1


# A strip that was cut still stands for as many elements as it began with.
def play_next(bench, step):
    base = bench.base + bench.begun
    if base < bench.many:
        bench.begin_strip(base)
        return bench.opened + 1
    return bench.at + 1


def play_turns(bench, step):
    bench.turns.append((bench.at, 0))
    return bench.at + 1


def play_quiet(bench, step):
    bench.raised = False
    return bench.at + 1


def play_till(bench, step):
    turns = bench.turns.pop()
    if bench.raised:
        return bench.at + 1
    count = turns[1] + 1
    if count >= step[1]:
        bench.refusal = (step[2], step[1], "endless")
    bench.turns.append((turns[0], count))
    return turns[0] + 1


WAYS = {
    "begin": play_begin,
    "next": play_next,
    "turns": play_turns,
    "quiet": play_quiet,
    "till": play_till,
}


def place_behind(bench, step):
    if lays_seat(step[0]):
        play_seat_step(bench, step)
        return bench.at + 1
    if has_effect(step[0]):
        play_effect(bench, step)
        return bench.at + 1
    return WAYS[step[0]](bench, step)


def ran(code, lengths, cells, lanes, dust, picks):
    bench = Bench(lengths, cells, lanes, dust, picks)
    while bench.at < len(code) and bench.refusal is None:
        bench.at = place_behind(bench, code[bench.at])
    return (bench.cells, bench.refusal, bench.touches)

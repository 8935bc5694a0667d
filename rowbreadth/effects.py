"""The steps of a strip that lay no seat: masks, faults and cuts, slots, rows' cells and the raised sign."""

from rowbreadth.cuts import cut_join, doubled
from rowbreadth.reckon import free, joined


def play_reach(bench, step):
    active = bench.active_under(step[3])
    for lane, number in zip(active, bench.numbers_in(step[1], active)):
        if not 0 <= number < step[2]:
            bench.faults[lane] = "outside"


def play_trim(bench, step):
    faulted = [lane for lane in bench.faults if lane < bench.width]
    if len(faulted) > 0:
        bench.cut = min(faulted)
        bench.width = bench.cut


def play_stop(bench, step):
    if bench.cut is not None:
        bench.refusal = (step[1], bench.base + bench.cut, bench.faults[bench.cut])


def lay_chosen(bench, step, nought):
    active = bench.active_under(step[3])
    numbers = bench.numbers_in(step[2], active)
    bench.lay_mask(step[1], [lane for lane, number in zip(active, numbers) if (number == 0) == nought])


def play_choose(bench, step):
    lay_chosen(bench, step, False)


def play_other(bench, step):
    lay_chosen(bench, step, True)


def play_save(bench, step):
    active = bench.active_under(step[3])
    for lane, number in zip(active, bench.numbers_in(step[2], active)):
        bench.write_slot(step[1], lane, number)


def play_store(bench, step):
    active = bench.active_under(step[3])
    for lane, number in zip(active, bench.numbers_in(step[2], active)):
        bench.write_cell(step[1], bench.base + lane, number)


def play_put(bench, step):
    active = bench.active_under(step[4])
    places = bench.numbers_in(step[2], active)
    for place, number in zip(places, bench.numbers_in(step[3], active)):
        bench.write_cell(step[1], place, number)


# Only a free fold may be cut; the others ask for their numbers in order.
def folded(bench, fold, run, numbers):
    if free(fold):
        return joined(fold, run, cut_join(fold, numbers, bench.picks))
    for number in numbers:
        run = joined(fold, run, number)
    return run


def play_fold(bench, step):
    numbers = bench.numbers_in(step[3], bench.active_under(step[4]))
    if len(numbers) > 0:
        run = bench.read_cell(step[1], 0)
        bench.write_cell(step[1], 0, folded(bench, step[2], run, numbers))


def ran_in_order(fold, numbers):
    told = numbers[:1]
    for number in numbers[1:]:
        told.append(joined(fold, told[-1], number))
    return told


def running_numbers(fold, carried, numbers):
    first = numbers[:1]
    if carried is not None:
        first = [joined(fold, carried, number) for number in first]
    if free(fold):
        return doubled(fold, first + numbers[1:])
    return ran_in_order(fold, first + numbers[1:])


def play_running(bench, step):
    active = bench.active_under(step[4])
    told = running_numbers(step[2], bench.carried, bench.numbers_in(step[3], active))
    for lane, number in zip(active, told):
        bench.write_cell(step[1], bench.base + lane, number)
        bench.carried = number


def play_any(bench, step):
    if any(bench.numbers_in(step[1], bench.active_under(step[2]))):
        bench.raised = True


EFFECTS = {
    "reach": play_reach,
    "trim": play_trim,
    "stop": play_stop,
    "choose": play_choose,
    "other": play_other,
    "save": play_save,
    "store": play_store,
    "put": play_put,
    "fold": play_fold,
    "running": play_running,
    "any": play_any,
}


def has_effect(word):
    return word in EFFECTS


def play_effect(bench, step):
    EFFECTS[step[0]](bench, step)

"""What several tests share."""

import random

from rowbreadth.bench import Bench
from rowbreadth.errors import ByNought, LineError
from rowbreadth.forms import At, Call, Cell, Choice, Here, Local, Number, Pair, Shifted
from rowbreadth.looks import depth_of, size_of
from rowbreadth.reader import read
from rowbreadth.reckon import done, joined
from rowbreadth.steps import Fold, Let, Program, Put, Running, Till

FIELDS = {
    "Number": ["number"], "Here": [], "Cell": ["row"], "Shifted": ["row", "by", "other"], "Local": ["at"],
    "At": ["row", "place"], "Pair": ["sign", "left", "right"], "Choice": ["test", "left", "right"],
    "Call": ["at", "handed"], "Let": ["target", "value", "test"], "Put": ["target", "value", "place", "many", "test"],
    "Fold": ["target", "fold", "value", "many", "test"], "Running": ["target", "fold", "value", "test"],
    "Till": ["target", "most", "steps"], "Program": ["lengths", "functions", "steps"],
}
HALF = 2 ** 63
SIGNS = ("+", "-", "*", "/", "rest", "least", "most", "<", "=", "&", "|", "^")
FOLDS = ("sum", "product", "least", "most", "both", "either", "odd", "chain", "capped")
SEAT_WORDS = ("number", "here", "load", "spread", "shift", "gather", "op", "pick", "copy", "bring")


# Where a step names the seats that it reads.
SEATS_READ = {"gather": [2], "op": [3, 4], "pick": [2, 3], "copy": [2], "reach": [1], "choose": [2], "other": [2],
              "save": [2], "store": [2], "put": [2, 3], "fold": [3], "running": [3], "any": [1]}


def shown(thing):
    """The thing with its class's name and its fields, so that two of them can be set side by side."""
    if isinstance(thing, (list, tuple)):
        return type(thing)(shown(part) for part in thing)
    name = type(thing).__name__
    if name in FIELDS:
        return (name,) + tuple(shown(getattr(thing, field)) for field in FIELDS[name])
    return thing


def refusal_of(text):
    """The name of the refusal's class and its line, or None where the text is read."""
    try:
        read(text)
    except LineError as e:
        return (type(e).__name__, e.line)
    return None


class Unsound(Exception):
    """The code read a lane that is not good, or named what is not there."""


class Faulted(Exception):
    """This lane faults."""


class Model:
    """The machine by the document's words, a lane at a time. A strict one minds that only good lanes are read."""

    def __init__(self, lengths, cells, lanes, dust, strict=True):
        self.strict = strict
        self.lengths, self.cells, self.lanes = list(lengths), list(cells), lanes
        self.dust, self.dust_used = list(dust), 0
        self.boxes, self.masks, self.slots = {}, {}, {}
        self.touches, self.at, self.refusal = [], 0, None
        self.in_round, self.flag, self.turns = False, False, []

    def dusted(self):
        self.dust_used += 1
        return self.dust[(self.dust_used - 1) % len(self.dust)] if self.dust else 0

    def demand(self, truth, *words):
        if not truth:
            raise Unsound(("step", self.at) + words)

    def demand_good(self, truth, *words):
        self.demand(truth or not self.strict, *words)

    def is_true(self, mask, lane):
        self.demand_good(mask in self.good_masks, "mask is read", mask)
        return self.masks.get((mask, lane), False)

    # Rounds and strips.
    def begin(self, many, group):
        self.demand(1 <= many <= 400 and group in (1, 2, 4) and not self.in_round, "begin")
        self.in_round, self.many, self.group, self.carried, self.opened = True, many, group, None, self.at
        self.strip(0)

    def strip(self, base):
        self.base = base
        self.began = self.width = min(self.many - base, self.group * self.lanes)
        self.faults, self.cut = {}, None
        self.good_seats, self.good_slots, self.good_masks = {}, {}, {0}
        for lane in range(self.width):
            self.masks[0, lane] = True
        self.mask_beyond(0)

    def mask_beyond(self, mask):
        for lane in range(self.width, self.group * self.lanes):
            self.masks[mask, lane] = self.dusted() % 2 != 0

    def next(self):
        if self.base + self.began < self.many:
            self.strip(self.base + self.began)
            self.at = self.opened
        else:
            self.in_round = False

    # What a step reads.
    def active(self, mask):
        return [lane for lane in range(self.width) if self.is_true(mask, lane) and lane not in self.faults]

    def seat_place(self, seat, lane):
        self.demand(0 <= seat < 8 // self.group, "seat is named", seat)
        return seat * self.group + lane // self.lanes, lane % self.lanes

    def seat(self, seat, lane):
        place = self.seat_place(seat, lane)
        self.demand_good(lane in self.good_seats.get(seat, ()), "lane and seat are read", lane, seat)
        return self.boxes.get(place, 0)

    def address(self, row, place):
        there = 0 <= row < len(self.lengths) and 0 <= place < self.lengths[row]
        self.demand(there, "cell and row are named", place, row)
        return sum(self.lengths[:row]) + place

    def slot_address(self, slot, lane):
        self.demand(0 <= slot <= 59, "slot is named", slot)
        return len(self.cells) + slot * 4 * self.lanes + lane

    def touch(self, kind, address):
        self.touches.append((self.at, kind, address))

    def read(self, row, place):
        self.touch("read", self.address(row, place))
        return self.cells[self.address(row, place)]

    def write(self, row, place, number):
        self.touch("write", self.address(row, place))
        self.cells[self.address(row, place)] = number

    # The steps that lay a seat.
    def seat_step(self, step):
        active, good = set(self.active(step[-1])), set()
        self.spread = None
        for lane in range(self.group * self.lanes):
            number = None
            if lane in active:
                try:
                    number = getattr(self, "lane_" + step[0])(lane, *step[2:])
                    good.add(lane)
                except Faulted as e:
                    self.faults[lane] = str(e)
            self.boxes[self.seat_place(step[1], lane)] = self.dusted() if number is None else number
        self.good_seats[step[1]] = good

    def lane_number(self, lane, number, m):
        return number

    def lane_here(self, lane, m):
        return self.base + lane

    def lane_load(self, lane, row, m):
        return self.read(row, self.base + lane)

    def lane_spread(self, lane, row, m):
        if self.spread is None:
            self.spread = self.read(row, 0)
        return self.spread

    def lane_shift(self, lane, row, by, other, m):
        place = self.base + lane + by
        return self.read(row, place) if 0 <= place < self.lengths[row] else other

    def lane_gather(self, lane, q, row, m):
        place = self.seat(q, lane)
        if not 0 <= place < self.lengths[row]:
            raise Faulted("outside")
        return self.read(row, place)

    def lane_op(self, lane, sign, q, r, m):
        try:
            return done(sign, self.seat(q, lane), self.seat(r, lane))
        except ByNought:
            raise Faulted("nought")

    def lane_pick(self, lane, q, r, k, m):
        return self.seat(q if self.is_true(k, lane) else r, lane)

    def lane_copy(self, lane, q, m):
        return self.seat(q, lane)

    def lane_bring(self, lane, s, m):
        self.demand_good(lane in self.good_slots.get(s, ()), "lane and slot are read", lane, s)
        self.touch("read", self.slot_address(s, lane))
        return self.slots.get((s, lane), 0)

    # The other steps of a strip.
    def reach(self, p, length, m):
        for lane in self.active(m):
            if not 0 <= self.seat(p, lane) < length:
                self.faults[lane] = "outside"

    def trim(self):
        for lane in range(self.width):
            if lane in self.faults:
                self.cut = self.width = lane
                return

    def stop(self, n):
        if self.cut is not None:
            self.refusal = (n, self.base + self.cut, self.faults[self.cut])

    def choose(self, k, p, m, wanted=True):
        self.demand(1 <= k <= 15, "mask is laid", k)
        active = self.active(m)
        truths = {lane: (self.seat(p, lane) != 0) == wanted for lane in active}
        for lane in range(self.width):
            self.masks[k, lane] = truths.get(lane, False)
        self.mask_beyond(k)
        self.good_masks.add(k)

    def other(self, k, p, m):
        self.choose(k, p, m, False)

    def save(self, s, p, m):
        self.good_slots[s] = set(self.active(m))
        for lane in self.active(m):
            self.touch("write", self.slot_address(s, lane))
            self.slots[s, lane] = self.seat(p, lane)

    def store(self, row, p, m):
        for lane in self.active(m):
            self.write(row, self.base + lane, self.seat(p, lane))

    def put(self, row, q, p, m):
        for lane in self.active(m):
            self.write(row, self.seat(q, lane), self.seat(p, lane))

    def fold(self, row, fold, p, m):
        if self.active(m):
            run = self.read(row, 0)
            for lane in self.active(m):
                run = joined(fold, run, self.seat(p, lane))
            self.write(row, 0, run)

    def running(self, row, fold, p, m):
        for lane in self.active(m):
            number = self.seat(p, lane)
            self.carried = number if self.carried is None else joined(fold, self.carried, number)
            self.write(row, self.base + lane, self.carried)

    def any(self, p, m):
        if any([self.seat(p, lane) != 0 for lane in self.active(m)]):
            self.flag = True

    # The steps outside of rounds.
    def open_turns(self):
        self.turns.append([self.at, 0])

    def quiet(self):
        self.flag = False

    def till(self, most, n):
        self.turns[-1][1] += 1
        if self.flag:
            self.turns.pop()
        elif self.turns[-1][1] == most:
            self.refusal = (n, most, "endless")
        else:
            self.at = self.turns[-1][0]

    def play(self, step):
        word = step[0]
        self.demand(word == "begin" or self.in_round == (word not in ("turns", "quiet", "till")), "stands here", word)
        if word in SEAT_WORDS:
            self.seat_step(step)
        else:
            getattr(self, "open_turns" if word == "turns" else word)(*step[1:])

    def run(self, code):
        while self.at < len(code) and self.refusal is None:
            self.play(code[self.at])
            self.at += 1
        self.demand(self.refusal or not (self.in_round or self.turns), "the end comes within a round or turns")
        return self.cells, self.refusal, self.touches


# Strips of each group: full ones, a last one that is not full, and one of a single element. (lanes, group, many, base)
STRIPS = ((1, 1, 5, 2), (1, 4, 6, 4), (3, 1, 7, 6), (3, 2, 12, 6), (3, 2, 10, 6), (2, 4, 400, 8), (5, 4, 33, 20),
          (64, 4, 400, 256), (64, 1, 1, 0))
# Which lanes a mask has: all, none, some.
PATTERNS = (lambda lane: True, lambda lane: False, lambda lane: lane % 2 == 0, lambda lane: lane % 3 == 1)
DUST = [10 ** 6 + at for at in range(0, 3000, 7)]


def strip_of(bench, group, many, base):
    """Lets the bench begin a round's strip at that base, and then puts it at the dust's first number again."""
    bench.open_round(many, group)
    bench.begin_strip(base)
    bench.dust.at = 0
    return bench


def bench_and_model(by, lengths, cells):
    """A bench and a model, both at the begin of the same strip, with the same dust."""
    lanes, group, many, base = by.choice(STRIPS)
    dust = [by.randrange(-9, 10) for _ in range(by.randrange(8))]
    bench = Bench(lengths, cells, lanes, dust, [by.randrange(-9, 9)])
    bench.open_round(many, group)
    bench.begin_strip(base)
    model = Model(lengths, cells, lanes, dust, strict=False)
    model.begin(many, group)
    model.strip(base)
    return bench, model


def seat_numbers(bench, seat):
    return [bench.boxes.number_at(bench.group, seat, lane) for lane in range(bench.group * bench.lanes)]


def lay_all(bench, seat, number_of):
    """Every lane of the seat gets its number, whatever the mask and the width are."""
    for lane in range(bench.group * bench.lanes):
        bench.boxes.lay(bench.group, seat, lane, number_of(lane))


def lay_truths(bench, mask, truth_of):
    for lane in range(len(bench.masks[mask])):
        bench.masks[mask][lane] = truth_of(lane)


class Sower:
    """Makes sound programs and cells for them, by numbers that are the same at each run. Few elements refuse."""

    def __init__(self, seed, lengths=(1, 1, 2, 3, 7, 30), sizes=(1, 2, 4, 8, 16)):
        self.by = random.Random(seed)
        self.sizes = sizes
        self.lengths = [self.by.choice(lengths) for _ in range(self.by.randint(1, 5))]
        self.functions = []
        for _ in range(self.by.randrange(5)):
            own = self.by.choice((0, 1, 2, 6))
            self.functions.append((own, self.small([], [], own)))

    def number(self):
        return self.by.choice((0, 1, 2, 3, -1, 5, self.by.randrange(-40, 40), self.by.randrange(-HALF, HALF)))

    def leaf(self, cells, rows, own):
        kind = self.by.randrange(4)
        if kind == 0 and cells:
            return Cell(self.by.choice(cells))
        if kind == 1 and rows:
            return Shifted(self.by.choice(rows), self.by.choice((-400, -2, -1, 0, 1, 3, 400)), self.number())
        if kind <= 1 and own:
            return Local(self.by.randrange(own))
        return Here() if kind == 2 else Number(self.number())

    def form(self, size, cells, rows, own):
        """A form of about that size; the cells' rows may be read by Cell, the others by Shifted and At."""
        kind = self.by.choice(("pair", "pair", "choice", "at", "call", "leaf"))
        if kind == "pair" and size >= 3:
            left = self.by.randrange(1, size - 1)
            sign, behind = self.by.choice(SIGNS), self.form(size - 1 - left, cells, rows, own)
            if sign in ("/", "rest") and self.by.randrange(4):
                behind = Pair("|", behind, Number(1))
            return Pair(sign, self.form(left, cells, rows, own), behind)
        if kind == "choice" and size >= 4:
            return Choice(*[self.form((size - 1) // 3, cells, rows, own) for _ in range(3)])
        if kind == "at" and size >= 2 and rows:
            row, place = self.by.choice(rows), self.form(size - 1, cells, rows, own)
            if self.by.randrange(8):
                place = Pair("rest", place, Number(self.lengths[row]))
            return At(row, place)
        if kind == "call" and size >= 2 and self.functions:
            at = self.by.randrange(len(self.functions))
            many = self.functions[at][0]
            return Call(at, [self.form(size // (many + 1), cells, rows, own) for _ in range(many)])
        return self.leaf(cells, rows, own)

    def small(self, cells, rows, own):
        while True:
            form = self.form(self.by.choice(self.sizes), cells, rows, own)
            if size_of(form, self.functions) <= 60 and depth_of(form, self.functions) <= 7:
                return form

    def step(self):
        kind, target = self.by.choice((Let, Put, Fold, Running)), self.by.randrange(len(self.lengths))
        if kind is Fold and self.lengths[target] != 1:
            return self.step()
        many = self.lengths[target] if kind in (Let, Running) else self.by.choice(self.lengths + [11])
        rows = [row for row in range(len(self.lengths)) if row != target]
        cells = [row for row, length in enumerate(self.lengths)
                 if length in (1, many) and (row != target or kind in (Let, Running))]
        value, place, test = [self.small(cells, rows, 0) for _ in range(3)]
        test = test if self.by.randrange(2) else None
        if self.by.randrange(8):
            place = Pair("rest", Here(), Number(self.lengths[target]))
        if kind is Let:
            return Let(target, value, test)
        if kind is Put:
            return Put(target, value, place, many, test)
        if kind is Fold:
            return Fold(target, self.by.choice(FOLDS), value, many, test)
        return Running(target, self.by.choice(FOLDS), value, test)

    def steps(self, most, deep):
        told = []
        for _ in range(self.by.randint(0, most)):
            if deep and self.by.randrange(4) == 0:
                told.append(Till(self.by.randrange(len(self.lengths)), self.by.choice((1, 2, 3, 5)),
                                 self.steps(3, deep - 1)))
            else:
                told.append(self.step())
        return told

    def program(self):
        return Program(self.lengths, self.functions, self.steps(6, 3))

    def cells(self):
        return [self.number() for _ in range(sum(self.lengths))]


class Coder:
    """Makes sound code, by numbers that are the same at each run: of steps laid for nothing, and twice, too.

    A mask is known by when it was laid; whatever is laid under a mask may be read under it and under those that
    were chosen out of it. Rows 0 and 1 are as long as any round, row 2 has one cell, row 3 three.
    """

    LENGTHS = [9, 9, 1, 3]

    def __init__(self, seed):
        self.by = random.Random(seed)

    def begin(self):
        self.group, self.many = self.by.choice((1, 2, 4)), self.by.randrange(1, 10)
        self.strip, self.masks, self.parents, self.seats, self.slots, self.pairs = [], {0: 0}, {0: None}, {}, {}, {}

    def within(self, mask, wide):
        while mask is not None:
            if mask == wide:
                return True
            mask = self.parents[mask]
        return False

    def readable(self, held, mask):
        return [at for at, laid in held.items() if self.within(mask, laid)]

    def add(self, step):
        """Tells whether the step can stand here; where it can, it does."""
        word, mask = step[0], self.masks.get(step[-1]) if len(step) > 2 else 0
        if mask is None:
            return False
        good = self.readable(self.seats, mask)
        if word == "pick" and not self.can_pick(step, mask, good):
            return False
        if word != "pick" and any(step[at] not in good for at in SEATS_READ.get(word, [])):
            return False
        if word == "bring" and step[2] not in self.readable(self.slots, mask):
            return False
        self.strip.append(step)
        if word in SEAT_WORDS:
            self.seats[step[1]] = mask
        elif word in ("choose", "other"):
            self.masks[step[1]] = len(self.strip)
            self.parents[len(self.strip)] = mask
        elif word == "save":
            self.slots[step[1]] = mask
        return True

    def can_pick(self, step, mask, good):
        k = self.masks.get(step[4])
        if k is None:
            return False
        left = step[2] in good or step[2] in self.readable(self.seats, k)
        # The lanes that a choose leaves out of the mask it stands under are those of the other beside it.
        wide, beside = self.pairs.get(k, (None, None))
        right = step[3] in good or (wide is not None and self.within(mask, wide)
                                    and step[3] in self.readable(self.seats, beside))
        return left and right

    def choose_both(self, p, m):
        k, other = self.by.sample(range(1, 5), 2)
        if k != m and self.add(("choose", k, p, m)) and self.add(("other", other, p, m)) and other != m:
            self.pairs[self.masks[k]] = (self.masks[m], self.masks[other])

    def random_step(self):
        by, p, q, r = self.by, *[self.by.randrange(min(4, 8 // self.group)) for _ in range(3)]
        m, k, s, row = by.choice((0, 0, 1, 2, 3, 4)), by.randrange(1, 5), by.randrange(3), by.randrange(4)
        return by.choice((
            ("number", p, by.choice((0, 1, 2, -1, 5, HALF - 1)), m), ("number", p, by.choice((0, 1, 2, 7)), m),
            ("here", p, m), ("load", p, by.randrange(2), m), ("spread", p, row, m),
            ("shift", p, row, by.randrange(-7, 8), 4, m), ("gather", p, q, row, m),
            ("op", p, by.choice(SIGNS), q, r, m), ("op", p, by.choice(SIGNS), q, r, m),
            ("op", p, by.choice(("/", "rest")), q, r, m), ("pick", p, q, r, k, m), ("pick", p, q, r, k, m),
            ("copy", p, q, m), ("bring", p, s, m), ("save", s, p, m), ("reach", p, by.randrange(1, 30), m),
            ("choose", k, p, m), ("other", k, p, m), ("store", by.randrange(2), p, m),
            ("fold", row, by.choice(FOLDS), p, m), ("running", by.randrange(2), by.choice(FOLDS), p, m), ("any", p, m)))

    def round(self, size):
        self.begin()
        for _ in range(size):
            kind = self.by.randrange(8)
            if kind == 0 and self.strip and self.strip[-1][0] != "put":
                self.add(self.by.choice([step for step in self.strip[-6:] if step[0] != "put"]))
            elif kind == 1:
                self.choose_both(self.by.randrange(8 // self.group), self.by.choice((0, 1, 2)))
            elif kind == 2:
                row, (q, p) = self.by.randrange(4), [self.by.randrange(min(4, 8 // self.group)) for _ in range(2)]
                m = self.by.choice((0, 1))
                if self.masks.get(m) is not None and {q, p} <= set(self.readable(self.seats, self.masks[m])):
                    self.add(("reach", q, self.LENGTHS[row], m))
                    self.add(("put", row, q, p, m))
            elif kind == 3 and self.by.randrange(4) == 0:
                self.add(("trim",))
                if self.by.randrange(3):
                    self.add(("stop", self.by.randrange(40)))
            elif kind == 4 and self.slots:
                seat, slot = self.by.randrange(8 // self.group), self.by.choice(sorted(self.slots))
                self.add(("bring", seat, slot, self.by.choice((0, 1))))
            else:
                while not self.add(self.random_step()):
                    pass
        return [("begin", self.many, self.group)] + self.strip + [("next",)]

    def code(self, deep=1):
        told = []
        for _ in range(self.by.randrange(1, 4)):
            if deep and self.by.randrange(3) == 0:
                raised = [("begin", 1, 1), ("number", 0, self.by.randrange(4), 0), ("any", 0, 0), ("next",)]
                told += [("turns",)] + self.code(deep - 1) + raised
                told.append(("till", self.by.randrange(1, 4), self.by.randrange(40)))
            elif self.by.randrange(6) == 0:
                told.append(("quiet",))
            else:
                told += self.round(self.by.choice((4, 12, 30)))
        return told

    def cells(self):
        return [self.by.choice((0, 1, 2, 5, -3, HALF - 1)) for _ in range(sum(self.LENGTHS))]

"""The reader: from a text to a sound program, or to the refusal of its first bad line."""

from rowbreadth.errors import BadText, Crossed, TooDeep, TooLong, TooMany, Twice, Uneven
from rowbreadth.formreader import Reading, read_form, read_line_end, read_name, read_number, read_row, read_word
from rowbreadth.looks import crossed, depth_of, forms_of, size_of, uneven
from rowbreadth.reckon import is_fold
from rowbreadth.steps import Fold, Let, Program, Put, Running, Till
from rowbreadth.words import is_name, words_of

MOST_ROWS = 12
MOST_CELLS = 400
MOST_FUNCTIONS = 8
MOST_PARAMETERS = 6
MOST_STEPS = 40
MOST_TURNS = 1000
MOST_TILLS = 3
GREATEST_SIZE = 60
GREATEST_DEPTH = 7


class Source:
    def __init__(self, program, names, lines):
        self.program = program
        self.names = names
        self.lines = lines


# What the lines so far have brought. tills: tuples (target, most) of the Tills that are still open.
# levels: the lists of the program's steps and of those of each open Till, the innermost last.
class Draft:
    def __init__(self):
        self.rows = {}
        self.lengths = []
        self.heads = {}
        self.functions = []
        self.tills = []
        self.levels = [[]]
        self.lines = []


def refuse_within_till(draft, reading):
    if len(draft.tills) > 0:
        raise BadText(reading.line)


def refuse_taken(reading, name):
    if name in reading.rows or name in reading.heads:
        raise Twice(reading.line)


def read_new_name(reading):
    name = read_name(reading)
    refuse_taken(reading, name)
    return name


def read_row_line(draft, reading):
    refuse_within_till(draft, reading)
    name = read_new_name(reading)
    length = read_number(reading, 1, MOST_CELLS)
    read_line_end(reading)
    if len(draft.lengths) == MOST_ROWS:
        raise TooMany(reading.line)
    draft.rows[name] = len(draft.lengths)
    draft.lengths.append(length)


def read_parameters(reading, function):
    own = {}
    word = reading.next_word()
    while word != "=":
        if len(own) == MOST_PARAMETERS or not is_name(word):
            raise BadText(reading.line)
        if word == function or word in own:
            raise Twice(reading.line)
        refuse_taken(reading, word)
        own[word] = len(own)
        word = reading.next_word()
    return own


def check_forms(draft, line, forms):
    if any([size_of(form, draft.functions) > GREATEST_SIZE for form in forms]):
        raise TooLong(line)
    if any([depth_of(form, draft.functions) > GREATEST_DEPTH for form in forms]):
        raise TooDeep(line)


def read_def_line(draft, reading):
    refuse_within_till(draft, reading)
    name = read_new_name(reading)
    reading.own = read_parameters(reading, name)
    body = read_form(reading)
    read_line_end(reading)
    if len(draft.functions) == MOST_FUNCTIONS:
        raise TooMany(reading.line)
    check_forms(draft, reading.line, [body])
    many = len(reading.own)
    draft.heads[name] = (len(draft.functions), many)
    draft.functions.append((many, body))


def read_test(reading):
    if not reading.has_more():
        return None
    read_word(reading, "where")
    test = read_form(reading)
    read_line_end(reading)
    return test


def read_fold(reading):
    word = reading.next_word()
    if not is_fold(word):
        raise BadText(reading.line)
    return word


def read_many(reading):
    read_word(reading, "of")
    return read_number(reading, 1, MOST_CELLS)


def refuse_further_step(draft, line):
    if len(draft.lines) == MOST_STEPS:
        raise TooMany(line)


def take_step(draft, line, step):
    refuse_further_step(draft, line)
    check_forms(draft, line, forms_of(step))
    if uneven(step, draft.lengths):
        raise Uneven(line)
    if crossed(step):
        raise Crossed(line)
    draft.levels[-1].append(step)
    draft.lines.append(line)


def read_let_line(draft, reading):
    target = read_row(reading)
    value = read_form(reading)
    test = read_test(reading)
    take_step(draft, reading.line, Let(target, value, test))


def read_put_line(draft, reading):
    value = read_form(reading)
    read_word(reading, "at")
    place = read_form(reading)
    read_word(reading, "in")
    target = read_row(reading)
    many = read_many(reading)
    test = read_test(reading)
    take_step(draft, reading.line, Put(target, value, place, many, test))


def read_fold_line(draft, reading):
    fold = read_fold(reading)
    value = read_form(reading)
    read_word(reading, "into")
    target = read_row(reading)
    many = read_many(reading)
    test = read_test(reading)
    take_step(draft, reading.line, Fold(target, fold, value, many, test))


def read_run_line(draft, reading):
    fold = read_fold(reading)
    value = read_form(reading)
    read_word(reading, "into")
    target = read_row(reading)
    test = read_test(reading)
    take_step(draft, reading.line, Running(target, fold, value, test))


def read_till_line(draft, reading):
    target = read_row(reading)
    read_word(reading, "most")
    most = read_number(reading, 1, MOST_TURNS)
    read_line_end(reading)
    refuse_further_step(draft, reading.line)
    if len(draft.tills) == MOST_TILLS:
        raise TooMany(reading.line)
    draft.tills.append((target, most))
    draft.levels.append([])
    draft.lines.append(reading.line)


# A Till is made at its end, since it keeps a copy of its steps.
def read_end_line(draft, reading):
    if len(draft.tills) == 0:
        raise BadText(reading.line)
    read_line_end(reading)
    till = draft.tills.pop()
    steps = draft.levels.pop()
    draft.levels[-1].append(Till(till[0], till[1], steps))


LINES = {
    "row": read_row_line,
    "def": read_def_line,
    "let": read_let_line,
    "put": read_put_line,
    "fold": read_fold_line,
    "run": read_run_line,
    "till": read_till_line,
    "end": read_end_line,
}


def read_words(draft, reading):
    word = reading.next_word()
    if word not in LINES:
        raise BadText(reading.line)
    LINES[word](draft, reading)


def read(text):
    draft = Draft()
    lines = text.split("\n")
    for number, line in enumerate(lines, start=1):
        words = words_of(line)
        if len(words) > 0:
            read_words(draft, Reading(number, words, draft.rows, draft.heads))
    if len(draft.tills) > 0:
        raise BadText(len(lines) + 1)
    program = Program(draft.lengths, draft.functions, draft.levels[0])
    return Source(program, list(draft.rows), draft.lines)

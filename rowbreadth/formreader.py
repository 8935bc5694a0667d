"""The words of one line, read from the first one on, and the forms among them."""

from rowbreadth.errors import BadText, NoName, TooDeep
from rowbreadth.forms import At, Call, Cell, Choice, Here, Local, Number, Pair, Shifted
from rowbreadth.reckon import HALF, is_sign
from rowbreadth.words import is_name, number_in

MOST_BRACKETS = 30
FARTHEST_SHIFT = 400


# rows: from names to the rows' numbers. heads: from functions' names to tuples (number, how many it is handed).
# own: from a def's parameters to their places; None outside of a def, where rows are known instead.
class Reading:
    def __init__(self, line, words, rows, heads):
        self.line = line
        self.words = words
        self.rows = rows
        self.heads = heads
        self.own = None
        self.passed = 0
        self.brackets = 0

    def has_more(self):
        return self.passed < len(self.words)

    def next_word(self):
        if not self.has_more():
            raise BadText(self.line)
        self.passed = self.passed + 1
        return self.words[self.passed - 1]


def read_word(reading, wanted):
    if reading.next_word() != wanted:
        raise BadText(reading.line)


def read_line_end(reading):
    if reading.has_more():
        raise BadText(reading.line)


def read_name(reading):
    word = reading.next_word()
    if not is_name(word):
        raise BadText(reading.line)
    return word


def read_number(reading, least, most):
    number = number_in(reading.next_word())
    if number is None or not least <= number <= most:
        raise BadText(reading.line)
    return number


def read_row(reading):
    name = read_name(reading)
    if name not in reading.rows:
        raise NoName(reading.line)
    return reading.rows[name]


def read_forms(reading, many):
    forms = []
    while len(forms) < many:
        forms.append(read_form(reading))
    return forms


def read_at(reading):
    row = read_row(reading)
    return At(row, read_form(reading))


def read_shifted(reading):
    row = read_row(reading)
    by = read_number(reading, -FARTHEST_SHIFT, FARTHEST_SHIFT)
    return Shifted(row, by, read_number(reading, -HALF, HALF - 1))


def read_pair(reading, sign):
    forms = read_forms(reading, 2)
    return Pair(sign, forms[0], forms[1])


def read_choice(reading):
    forms = read_forms(reading, 3)
    return Choice(forms[0], forms[1], forms[2])


def read_call(reading, name):
    if name not in reading.heads:
        raise NoName(reading.line)
    head = reading.heads[name]
    return Call(head[0], read_forms(reading, head[1]))


def read_behind_bracket(reading):
    word = reading.next_word()
    if is_sign(word):
        return read_pair(reading, word)
    if word == "if":
        return read_choice(reading)
    if is_name(word):
        return read_call(reading, word)
    if word == "at" and reading.own is None:
        return read_at(reading)
    if word == "shift" and reading.own is None:
        return read_shifted(reading)
    raise BadText(reading.line)


def read_bracket(reading):
    if reading.brackets == MOST_BRACKETS:
        raise TooDeep(reading.line)
    reading.brackets = reading.brackets + 1
    form = read_behind_bracket(reading)
    read_word(reading, ")")
    reading.brackets = reading.brackets - 1
    return form


def named_form(reading, name):
    if reading.own is None and name in reading.rows:
        return Cell(reading.rows[name])
    if reading.own is not None and name in reading.own:
        return Local(reading.own[name])
    raise NoName(reading.line)


def read_form(reading):
    word = reading.next_word()
    if word == "(":
        return read_bracket(reading)
    if word == "here":
        return Here()
    if is_name(word):
        return named_form(reading, word)
    number = number_in(word)
    if number is None:
        raise BadText(reading.line)
    return Number(number)

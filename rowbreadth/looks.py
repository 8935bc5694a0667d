"""What is told of forms and steps by looking at them: size, depth, the even rule and the uncrossed rule."""

from rowbreadth.forms import At, Call, Cell, Choice, Pair, Shifted
from rowbreadth.steps import Fold, Put, Till


def parts_of(form):
    if isinstance(form, At):
        return [form.place]
    if isinstance(form, Pair):
        return [form.left, form.right]
    if isinstance(form, Choice):
        return [form.test, form.left, form.right]
    if isinstance(form, Call):
        return list(form.handed)
    return []


# The list grows as it is gone through, so that deep forms ask for no deep recursion. Bodies are left out.
def forms_within(form):
    found = [form]
    at = 0
    while at < len(found):
        found.extend(parts_of(found[at]))
        at = at + 1
    return found


# A body is measured once and then known, since calls of calls would measure it again and again.
def body_size(at, functions, known):
    if at not in known:
        known[at] = size_with(functions[at][1], functions, known)
    return known[at]


def size_with(form, functions, known):
    size = 0
    for part in forms_within(form):
        size = size + 1
        if isinstance(part, Call):
            size = size + body_size(part.at, functions, known)
    return size


def size_of(form, functions):
    return size_with(form, functions, {})


def body_depth(at, functions, known):
    if at not in known:
        known[at] = depth_with(functions[at][1], functions, known)
    return known[at]


def depth_with(form, functions, known):
    deepest = 0
    waiting = [(form, 0)]
    while len(waiting) > 0:
        pair = waiting.pop()
        part = pair[0]
        depth = pair[1]
        if isinstance(part, Choice):
            depth = depth + 1
        deepest = max(deepest, depth)
        if isinstance(part, Call):
            deepest = max(deepest, depth + body_depth(part.at, functions, known))
        waiting.extend([(inner, depth) for inner in parts_of(part)])
    return deepest


def depth_of(form, functions):
    return depth_with(form, functions, {})


def forms_of(step):
    forms = [step.value]
    if isinstance(step, Put):
        forms.append(step.place)
    if step.test is not None:
        forms.append(step.test)
    return forms


def is_uneven_form(form, lengths, many):
    for part in forms_within(form):
        if isinstance(part, Cell) and lengths[part.row] not in (many, 1):
            return True
    return False


def uneven(step, lengths):
    if isinstance(step, Till):
        return False
    if isinstance(step, Fold) and lengths[step.target] != 1:
        return True
    many = step.many_of(lengths)
    return any([is_uneven_form(form, lengths, many) for form in forms_of(step)])


# A Let or Running lays an element's own cell behind its reading; a Put or Fold lays cells that others read too.
def may_cross(step, part):
    if isinstance(part, Cell):
        return isinstance(step, (Put, Fold))
    return isinstance(part, (Shifted, At))


def is_crossed_form(step, form):
    for part in forms_within(form):
        if may_cross(step, part) and part.row == step.target:
            return True
    return False


def crossed(step):
    if isinstance(step, Till):
        return False
    return any([is_crossed_form(step, form) for form in forms_of(step)])

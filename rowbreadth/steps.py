"""The steps of a program, and how they are counted."""


class Step:
    pass


class Let(Step):
    def __init__(self, target, value, test=None):
        self.target = target
        self.value = value
        self.test = test

    def many_of(self, lengths):
        return lengths[self.target]


class Put(Step):
    def __init__(self, target, value, place, many, test=None):
        self.target = target
        self.value = value
        self.place = place
        self.many = many
        self.test = test

    def many_of(self, lengths):
        return self.many


class Fold(Step):
    def __init__(self, target, fold, value, many, test=None):
        self.target = target
        self.fold = fold
        self.value = value
        self.many = many
        self.test = test

    def many_of(self, lengths):
        return self.many


class Running(Step):
    def __init__(self, target, fold, value, test=None):
        self.target = target
        self.fold = fold
        self.value = value
        self.test = test

    def many_of(self, lengths):
        return lengths[self.target]


class Till(Step):
    def __init__(self, target, most, steps):
        self.target = target
        self.most = most
        self.steps = list(steps)


class Program:
    def __init__(self, lengths, functions, steps):
        self.lengths = list(lengths)
        self.functions = list(functions)
        self.steps = list(steps)


def count_of(steps):
    count = 0
    for step in steps:
        count = count + 1
        if isinstance(step, Till):
            count = count + count_of(step.steps)
    return count

"""Numbers handed out one behind the other, and round again."""


class Feed:
    def __init__(self, numbers):
        self.numbers = list(numbers)
        self.at = 0

    def taken(self):
        if len(self.numbers) == 0:
            return 0
        number = self.numbers[self.at]
        self.at = (self.at + 1) % len(self.numbers)
        return number

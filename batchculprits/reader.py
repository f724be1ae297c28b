"""Reads the calls of one line, number by number, and leaves their list as it is."""


class Reader:
    """A place in a list of whole numbers, which only goes forward."""

    def __init__(self, numbers):
        self.numbers = numbers
        self.place = 0

    def is_done(self):
        return self.place >= len(self.numbers)

    def whole(self):
        """The whole number that comes now."""
        number = self.numbers[self.place]
        self.place = self.place + 1
        return number

    def row(self):
        """The list that comes now, with how many numbers it has before it."""
        length = self.whole()
        start = self.place
        self.place = start + length
        return self.numbers[start:self.place]

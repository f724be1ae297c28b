"""Many drawn lines, the same ones every time, answered by the program and by the model."""

import random
import unittest

from tests import lines
from tests.model import Model

NUMBERS_PAST_THE_EDGE = (-1, 24, 25, lines.FAR, -lines.FAR)
WEIGHTS = {
    "items": 1, "rule": 20, "lift": 5, "rules": 3, "fails": 4, "why": 4, "first": 4,
    "suspect": 10, "culprit": 10, "quick": 10, "smallest": 10, "land": 24, "pairs": 4}
MUST_BE_SEEN = {
    "items": (-1, 0), "rule": (-7, -2, 0), "lift": (-1, 0), "rules": (0,), "fails": (-2, 0, 1), "why": (-2, 0),
    "first": (-2, 0, 1), "suspect": (-2, 0, 1, 2), "culprit": (-2, 0, 1), "quick": (-8, -2, 0, 1),
    "smallest": (-7, -2, 0, 1), "land": (-2, -1, 0, 1), "pairs": (0, 1)}


class Line:
    """What is drawn for one line; its rules' lists are of like lengths, so that some batches fail and some pass."""

    def __init__(self, draw):
        self.draw = draw
        self.model = Model()
        self.bad = draw.choice(((0, 2), (1, 1), (1, 2), (1, 3), (2, 2), (2, 3), (2, 7)))
        self.cures = draw.choice(((0, 0), (0, 0), (0, 1), (0, 2), (1, 3), (0, 7)))

    def numbers(self, least, most):
        draw = self.draw
        n = self.model.n
        numbers = draw.sample(range(n), draw.randint(min(n, least), min(n, most)))
        if draw.random() < 0.03:
            numbers.insert(draw.randint(0, len(numbers)), draw.choice(NUMBERS_PAST_THE_EDGE + (n,)))
        if numbers and draw.random() < 0.03:
            numbers.insert(draw.randint(0, len(numbers)), draw.choice(numbers))
        return numbers

    def call(self):
        """A call's name and its arguments."""
        draw = self.draw
        name = draw.choices(list(WEIGHTS), list(WEIGHTS.values()))[0]
        if name == "items":
            return name, [draw.choice((-1, 25, lines.FAR, -lines.FAR, 0, 3, 6, 9, 24))]
        if name == "rule":
            return name, [self.numbers(*self.bad), self.numbers(*self.cures)]
        if name == "lift":
            there = len(self.model.told)
            return name, [draw.choice((-1, 0, there - 1, there, draw.randint(0, 15)))]
        if name in ("rules", "pairs"):
            return name, []
        if name == "smallest":
            return name, self.numbers(0, 11)
        if name == "land":
            return name, [draw.choice((0, 0, 0, 1, 1, 1, 2, 2, 2, -1, 3, lines.FAR))] + self.numbers(0, 24)
        return name, self.numbers(0, 24)


class AgainstModel(unittest.TestCase):
    def compare(self, seed, turns):
        """The names of the calls that were drawn, each with what its answers began with, but no more than 2."""
        draw = random.Random(seed)
        seen = {}
        for turn in range(turns):
            line = Line(draw)
            told = [("items", [draw.randint(1, 24)])]
            expected = [line.model.items(*told[0][1])]
            for place in range(draw.randint(1, 120)):
                told.append(line.call())
                expected.append(getattr(line.model, told[-1][0])(*told[-1][1]))
                seen.setdefault(told[-1][0], set()).add(min(expected[-1][0], 2))
            got = lines.run(*[getattr(lines, name)(*numbers) for name, numbers in told])
            self.assertEqual(got, expected, told)
        return seen

    def test_drawn_lines(self):
        seen = self.compare(20261116, 600)
        for name, beginnings in MUST_BE_SEEN.items():
            self.assertLessEqual(set(beginnings), seen[name], name)


if __name__ == "__main__":
    unittest.main()

"""Many drawn lines, the same ones every time, answered by the program and by the model."""

import random
import unittest

from tests import lines
from tests.model import Model

NUMBERS_PAST_THE_EDGE = (-1, 24, 25, lines.FAR, -lines.FAR)


def drawn_list(draw, n, most):
    numbers = draw.sample(range(n), draw.randint(0, min(n, most)))
    if draw.random() < 0.06:
        numbers.insert(draw.randint(0, len(numbers)), draw.choice(NUMBERS_PAST_THE_EDGE + (n,)))
    if numbers and draw.random() < 0.06:
        numbers.insert(draw.randint(0, len(numbers)), draw.choice(numbers))
    return numbers


def drawn_call(draw, model):
    """A call's name and its arguments."""
    name = draw.choices(
        ("items", "rule", "lift", "rules", "fails", "why", "first"), (1, 20, 4, 4, 10, 10, 10))[0]
    if name == "items":
        return name, [draw.choice(NUMBERS_PAST_THE_EDGE[:1] + NUMBERS_PAST_THE_EDGE[2:] + (0, 3, 6, 9, 24))]
    if name == "rule":
        most = draw.choice((1, 2, 3, 7))
        return name, [drawn_list(draw, model.n, most), drawn_list(draw, model.n, most)]
    if name == "lift":
        return name, [draw.choice((-1, 0, len(model.told) - 1, len(model.told), draw.randint(0, 15)))]
    if name == "rules":
        return name, []
    return name, drawn_list(draw, model.n, 24)


class AgainstModel(unittest.TestCase):
    def test_drawn_lines(self):
        draw = random.Random(20261116)
        seen = set()
        for turn in range(300):
            model = Model()
            calls = [lines.items(draw.randint(1, 24))]
            expected = [model.items(calls[0][1])]
            for place in range(draw.randint(1, 120)):
                name, told = drawn_call(draw, model)
                calls.append(getattr(lines, name)(*told))
                expected.append(getattr(model, name)(*told))
                seen.add((name, min(expected[-1][0], 0)))
            self.assertEqual(lines.run(*calls), expected, calls)
        refused = {("items", -1), ("rule", -2), ("rule", -7), ("lift", -1), ("fails", -2), ("why", -2), ("first", -2)}
        self.assertLessEqual(refused, seen)


if __name__ == "__main__":
    unittest.main()

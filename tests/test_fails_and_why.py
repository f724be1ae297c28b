"""Promise 4: fails and why."""

import unittest
from itertools import permutations

from tests.lines import FAR, fails, items, rule, rules, run, why


def both(line, batch):
    """What fails and why answer for a batch."""
    return run(*line, fails(*batch), why(*batch))[-2:]


class FailsAndWhy(unittest.TestCase):
    def test_without_rules_everything_passes(self):
        for batch in ([], [0], [5, 3, 1]):
            self.assertEqual(both([items(6)], batch), [[0], [0]])

    def test_an_item_that_fails_alone(self):
        line = [items(6), rule([2])]
        self.assertEqual(both(line, [2]), [[1], [1, 0]])
        self.assertEqual(both(line, [0, 2, 1]), [[1], [1, 0]])
        self.assertEqual(both(line, [0, 1, 3, 4, 5]), [[0], [0]])

    def test_items_that_fail_only_together(self):
        line = [items(6), rule([2, 4])]
        self.assertEqual(both(line, [2, 4]), [[1], [1, 0]])
        self.assertEqual(both(line, [2, 3]), [[0], [0]])
        self.assertEqual(both(line, [4]), [[0], [0]])

    def test_cures_that_mend(self):
        line = [items(6), rule([2], [0, 5])]
        self.assertEqual(both(line, [2, 1]), [[1], [1, 0]])
        for batch in ([2, 0], [5, 2], [0, 2, 5]):
            self.assertEqual(both(line, batch), [[0], [0]])

    def test_a_cure_mends_its_own_rule_alone(self):
        line = [items(6), rule([2], [0]), rule([2, 0])]
        self.assertEqual(both(line, [2, 0]), [[1], [1, 1]])

    def test_cures_without_bad_items(self):
        line = [items(6), rule([], [1, 3])]
        self.assertEqual(both(line, []), [[1], [1, 0]])
        self.assertEqual(both(line, [0]), [[1], [1, 0]])
        self.assertEqual(both(line, [3]), [[0], [0]])

    def test_the_empty_batch(self):
        self.assertEqual(both([items(6), rule([1])], []), [[0], [0]])
        self.assertEqual(both([items(6), rule([1]), rule([]), rule([], [2])], []), [[1], [2, 1, 2]])

    def test_before_there_are_items(self):
        self.assertEqual(run(fails(), why(), fails(0), why(0)), [[0], [0], [-2], [-2]])

    def test_the_order_of_a_batch_does_not_matter(self):
        line = [items(6), rule([4, 1]), rule([1, 4, 3], [5]), rule([2])]
        for batch in permutations([1, 3, 4]):
            self.assertEqual(both(line, batch), [[1], [2, 0, 1]])

    def test_several_rules_met_increasing(self):
        line = [items(6), rule([5]), rule([4]), rule([0]), rule([3, 5], [1]), rule([])]
        self.assertEqual(both(line, [5, 3, 0]), [[1], [4, 0, 2, 3, 4]])

    def test_only_the_last_rule_met(self):
        line = [items(24)] + [rule([k]) for k in range(16)]
        self.assertEqual(both(line, [20, 15, 16]), [[1], [1, 15]])

    def test_all_24_items(self):
        line = [items(24), rule([0, 23]), rule([1], [22])]
        self.assertEqual(both(line, range(24)), [[1], [1, 0]])
        self.assertEqual(both(line, range(22, -1, -1)), [[0], [0]])


class Refused(unittest.TestCase):
    def test_a_number_that_is_no_item(self):
        line = [items(6), rule([])]
        for number in (-1, 6, 7, 24, FAR, -FAR):
            for batch in ([number], [0, number], [number, 0], [1, number, 0]):
                self.assertEqual(both(line, batch), [[-2], [-2]])

    def test_a_number_twice(self):
        line = [items(6), rule([3])]
        for batch in ([3, 3], [0, 0], [1, 2, 1], [0, 5, 4, 5]):
            self.assertEqual(both(line, batch), [[-2], [-2]])

    def test_40_numbers(self):
        self.assertEqual(both([items(24)], range(40)), [[-2], [-2]])
        self.assertEqual(both([items(24)], list(range(24)) + [0] * 16), [[-2], [-2]])

    def test_everything_is_as_it_was(self):
        got = run(items(6), rule([3], [2]), fails(6), why(0, 0), rules(), fails(3), fails(5))
        self.assertEqual(got[2:], [[-2], [-2], [1, 1, 3, 1, 2], [1], [0]])


if __name__ == "__main__":
    unittest.main()

"""Promise 11: pairs."""

import unittest
from itertools import combinations

from tests.lines import fails, items, last, lift, pairs, rule, rules, run


class Pairs(unittest.TestCase):
    def test_no_items(self):
        self.assertEqual(run(pairs(), items(0), pairs(), rule([]), pairs()), [[0], [0], [0], [0], [0]])

    def test_one_item(self):
        self.assertEqual(run(items(1), pairs(), rule([0]), pairs()), [[1], [0], [0], [0]])

    def test_no_pair(self):
        self.assertEqual(last(items(6), pairs()), [0])
        self.assertEqual(last(items(6), rule([3]), rule([0, 1, 2]), pairs()), [0])

    def test_one(self):
        self.assertEqual(last(items(6), rule([4, 2]), pairs()), [1, 2, 4])

    def test_several_in_their_order(self):
        line = [items(6), rule([5, 2]), rule([4, 1]), rule([1, 5]), rule([0, 3])]
        self.assertEqual(last(*line, pairs()), [4, 0, 3, 1, 4, 1, 5, 2, 5])

    def test_by_number(self):
        line = [items(24), rule([23, 10]), rule([9, 22]), rule([10, 2]), rule([0, 23])]
        self.assertEqual(last(*line, pairs()), [4, 0, 23, 2, 10, 9, 22, 10, 23])

    def test_a_pair_once_though_two_rules_tell_it(self):
        self.assertEqual(last(items(6), rule([1, 2]), rule([2, 1]), pairs()), [1, 1, 2])

    def test_one_of_them_fails_alone(self):
        self.assertEqual(last(items(6), rule([1, 2]), rule([1]), pairs()), [0])
        self.assertEqual(last(items(6), rule([1, 2]), rule([2]), rule([0, 3]), pairs()), [1, 0, 3])

    def test_nothing_at_all_fails(self):
        self.assertEqual(last(items(6), rule([]), rule([1, 2]), pairs()), [0])

    def test_nothing_at_all_fails_while_the_items_pass(self):
        line = [items(6), rule([], [1, 2, 4]), rule([1, 2]), rule([1, 3])]
        self.assertEqual(last(*line, pairs()), [1, 1, 2])

    def test_a_pair_that_a_cure_mends(self):
        self.assertEqual(last(items(6), rule([1], [2]), pairs()), [0])
        self.assertEqual(last(items(6), rule([1, 2], [2]), pairs()), [0])

    def test_a_cure_that_is_missing(self):
        self.assertEqual(last(items(6), rule([1, 2], [0, 3]), pairs()), [1, 1, 2])

    def test_a_cure_mends_its_own_rule_alone(self):
        self.assertEqual(last(items(6), rule([1, 2], [2]), rule([2, 1], [5]), pairs()), [1, 1, 2])

    def test_the_most_pairs_of_16_rules(self):
        told = list(combinations(range(18, 24), 2)) + [(0, 23)]
        expected = [number for pair in sorted(told) for number in pair]
        self.assertEqual(last(items(24), *[rule(pair) for pair in told], pairs()), [16] + expected)

    def test_when_a_rule_is_lifted(self):
        got = run(items(6), rule([1, 2]), rule([1]), pairs(), lift(1), pairs(), lift(0), pairs())
        self.assertEqual(got[3:], [[0], [1], [1, 1, 2], [0], [0]])

    def test_asking_changes_nothing(self):
        got = run(items(6), rule([4, 2], [3]), pairs(), rules(), fails(2, 4), fails(6), pairs())
        self.assertEqual(got[2:], [[1, 2, 4], [1, 2, 4, 2, 1, 3], [1], [-2], [1, 2, 4]])


if __name__ == "__main__":
    unittest.main()

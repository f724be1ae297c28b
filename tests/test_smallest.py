"""Promise 9: smallest."""

import unittest
from itertools import permutations

from tests.lines import FAR, fails, items, last, rule, rules, run, smallest


class Smallest(unittest.TestCase):
    def test_0_where_no_part_fails(self):
        self.assertEqual(last(items(6), smallest(0, 1, 2)), [0])
        self.assertEqual(last(items(6), rule([5]), rule([0, 3]), smallest(0, 1, 2)), [0])
        self.assertEqual(last(items(6), rule([1, 2], [1]), smallest(0, 1, 2)), [0])

    def test_0_for_the_empty_batch(self):
        self.assertEqual(run(smallest(), items(6), rule([0]), smallest()), [[0], [6], [0], [0]])

    def test_1_and_0_where_nothing_at_all_fails(self):
        for told in (([], []), ([], [2])):
            for batch in ([], [0], [2], [2, 1], [0, 1, 2]):
                self.assertEqual(last(items(6), rule([1]), rule(*told), smallest(*batch)), [1, 0])

    def test_the_whole_alone(self):
        self.assertEqual(last(items(6), rule([5, 0, 2]), smallest(5, 2, 0)), [1, 3, 0, 2, 5])
        self.assertEqual(last(items(6), rule([5, 0, 2]), smallest(5, 2)), [0])

    def test_the_fewest_items(self):
        line = [items(12), rule([0, 1]), rule([0, 1, 2]), rule([9]), rule([3, 4])]
        self.assertEqual(last(*line, smallest(0, 1, 2, 3, 4, 9)), [1, 1, 9])
        self.assertEqual(last(*line, smallest(4, 3, 2, 1, 0)), [1, 2, 0, 1])

    def test_of_several_the_first_by_number(self):
        line = [items(24), rule([5, 2]), rule([4, 1]), rule([5, 1]), rule([10, 11]), rule([9, 12])]
        for batch in permutations([5, 4, 2, 1]):
            self.assertEqual(last(*line, smallest(*batch)), [1, 2, 1, 4])
        self.assertEqual(last(*line, smallest(2, 5, 1)), [1, 2, 1, 5])
        self.assertEqual(last(*line, smallest(11, 10, 12, 9)), [1, 2, 9, 12])

    def test_compared_number_by_number(self):
        line = [items(24), rule([3, 1, 20]), rule([2, 4, 1]), rule([0, 23, 22])]
        self.assertEqual(last(*line, smallest(23, 22, 20, 4, 3, 2, 1)), [1, 3, 1, 2, 4])
        self.assertEqual(last(*line, smallest(23, 22, 20, 4, 3, 2, 1, 0)), [1, 3, 0, 22, 23])

    def test_a_part_fails_while_the_whole_passes(self):
        line = [items(6), rule([3, 1], [0])]
        self.assertEqual(run(*line, fails(0, 3, 1), smallest(0, 3, 1))[-2:], [[0], [1, 2, 1, 3]])

    def test_a_cure_among_its_bad_items(self):
        self.assertEqual(last(items(6), rule([1], [1]), rule([2, 3]), smallest(3, 2, 1)), [1, 2, 2, 3])

    def test_a_rule_met_by_another_rules_bad_items(self):
        self.assertEqual(last(items(6), rule([4, 5], [3]), rule([3, 4, 5]), smallest(5, 4, 3)), [1, 2, 4, 5])

    def test_10_items(self):
        line = [items(24), rule([23, 14]), rule([20])]
        self.assertEqual(last(*line, smallest(23, 22, 21, 19, 18, 17, 16, 15, 14, 13)), [1, 2, 14, 23])
        self.assertEqual(last(*line, smallest(*range(10))), [0])


class Refused(unittest.TestCase):
    def test_a_number_that_is_no_item(self):
        for number in (-1, 6, FAR, -FAR):
            for batch in ([number], [3, number], [number, 3]):
                self.assertEqual(last(items(6), rule([3]), smallest(*batch)), [-2])

    def test_a_number_twice(self):
        for batch in ([0, 0], [3, 1, 3]):
            self.assertEqual(last(items(6), rule([]), smallest(*batch)), [-2])

    def test_11_items(self):
        for line in ([items(24)], [items(24), rule([])], [items(24), rule([3])]):
            for length in (11, 12, 24):
                self.assertEqual(last(*line, smallest(*range(length))), [-7])

    def test_not_a_batch_ahead_of_too_many(self):
        for batch in (list(range(10)) + [24], [-1] + list(range(10)), list(range(10)) + [9], [2] * 40, range(40)):
            self.assertEqual(last(items(24), rule([3]), smallest(*batch)), [-2])

    def test_leaves_everything(self):
        got = run(items(24), rule([3], [2]), smallest(24), smallest(*range(11)), rules(), smallest(5, 3))
        self.assertEqual(got[2:], [[-2], [-7], [1, 1, 3, 1, 2], [1, 1, 3]])


if __name__ == "__main__":
    unittest.main()

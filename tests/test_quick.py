"""Promise 8: quick."""

import unittest

from tests.lines import FAR, each_is_needed, fails, items, last, lift, quick, rule, rules, run


class Passes(unittest.TestCase):
    def test_0_and_one_try(self):
        self.assertEqual(last(items(6), quick(0, 1, 2)), [0, 1])
        self.assertEqual(last(items(6), rule([5]), rule([0, 3]), quick(0, 1, 2)), [0, 1])

    def test_the_empty_batch(self):
        self.assertEqual(run(quick(), items(6), rule([0]), quick()), [[0, 1], [6], [0], [0, 1]])


class Quick(unittest.TestCase):
    def test_the_base_fails(self):
        for batch in ([], [0], [2, 1], [4, 3, 2, 1, 0]):
            self.assertEqual(last(items(6), rule([1]), rule([]), quick(*batch)), [1, 2, 0])

    def test_one_item(self):
        self.assertEqual(last(items(6), rule([2]), quick(2)), [1, 2, 1, 2])

    def test_two_items(self):
        # A base is asked about, but the one of the first half where nothing of the second is needed.
        self.assertEqual(last(items(6), rule([0]), quick(0, 1)), [1, 3, 1, 0])
        self.assertEqual(last(items(6), rule([1]), quick(0, 1)), [1, 4, 1, 1])
        self.assertEqual(last(items(6), rule([0, 1]), quick(0, 1)), [1, 4, 2, 0, 1])

    def test_odd_lengths(self):
        # Of three the first half is one item, of five it's two.
        line = [items(6), rule([0])]
        self.assertEqual(last(*line, quick(0, 1, 2)), [1, 3, 1, 0])
        self.assertEqual(last(*line, quick(1, 0, 2)), [1, 5, 1, 0])
        self.assertEqual(last(*line, quick(1, 2, 0)), [1, 6, 1, 0])
        self.assertEqual(last(*line, quick(0, 1, 2, 3, 4)), [1, 4, 1, 0])
        self.assertEqual(last(*line, quick(1, 2, 0, 3, 4)), [1, 5, 1, 0])

    def test_culprits_in_both_halves(self):
        self.assertEqual(last(items(8), rule([5, 0]), quick(6, 5, 4, 3, 2, 1, 0, 7)), [1, 10, 2, 5, 0])

    def test_what_the_first_half_needs_comes_first(self):
        self.assertEqual(last(items(6), rule([0, 3, 5]), quick(5, 0, 3)), [1, 6, 3, 5, 0, 3])
        self.assertEqual(last(items(6), rule([1, 4]), quick(4, 2, 1, 0))[2:], [2, 4, 1])

    def test_of_several_sets_the_front_one(self):
        line = [items(6), rule([4, 5]), rule([0, 1])]
        self.assertEqual(last(*line, quick(*range(6)))[2:], [2, 0, 1])
        self.assertEqual(last(*line, quick(5, 4, 3, 2, 1, 0))[2:], [2, 5, 4])

    def test_all_are_needed(self):
        # For the batch, for nothing at all, and for every later base.
        self.assertEqual(last(items(6), rule([0, 1, 2, 3]), quick(2, 0, 1, 3)), [1, 8, 4, 2, 0, 1, 3])

    def test_24_items(self):
        self.assertEqual(last(items(24), rule([0]), quick(*range(24)))[2:], [1, 0])
        self.assertEqual(last(items(24), rule([23, 0, 11, 12]), quick(*range(24)))[2:], [4, 0, 11, 12, 23])

    def test_without_any_single_one_the_others_pass(self):
        line = [items(8), rule([0, 5]), rule([1, 6]), rule([0, 2, 4]), rule([7, 3])]
        batch = [7, 2, 5, 0, 3, 6, 4, 1]
        for length in range(len(batch) + 1):
            got = last(*line, quick(*batch[:length]))
            if got[0] == 1:
                found = got[3:]
                self.assertEqual(len(found), got[2])
                self.assertTrue(each_is_needed(line, found), found)


class Refused(unittest.TestCase):
    def test_a_number_that_is_no_item(self):
        for number in (-1, 6, FAR, -FAR):
            for batch in ([number], [3, number], [number, 3]):
                self.assertEqual(last(items(6), rule([3]), quick(*batch)), [-2])

    def test_a_number_twice(self):
        for batch in ([0, 0], [3, 1, 3], [2] * 40):
            self.assertEqual(last(items(6), rule([]), quick(*batch)), [-2])

    def test_where_some_rule_has_cures(self):
        for told in (([3], [2]), ([], [2]), ([2], [2])):
            for batch in ([], [3], [2, 3], [0, 1]):
                self.assertEqual(last(items(6), rule(*told), quick(*batch)), [-8])
                self.assertEqual(last(items(6), rule([3]), rule(*told), rule([0]), quick(*batch)), [-8])

    def test_not_a_batch_ahead_of_cures(self):
        for batch in ([6], [-1], [FAR], [0, 0], [3, 1, 3]):
            self.assertEqual(last(items(6), rule([3], [2]), quick(*batch)), [-2])

    def test_no_more_when_that_rule_is_lifted(self):
        got = run(items(6), rule([3]), rule([1], [2]), quick(3), lift(1), quick(3), quick(1))
        self.assertEqual(got[3:], [[-8], [1], [1, 2, 1, 3], [0, 1]])

    def test_still_while_another_rule_has_cures(self):
        got = run(items(6), rule([3], [0]), rule([1], [2]), lift(0), quick(3), lift(0), quick(3))
        self.assertEqual(got[3:], [[1], [-8], [0], [0, 1]])

    def test_leaves_everything(self):
        got = run(items(6), rule([3], [2]), quick(6), quick(3), rules(), fails(3), fails(3, 2))
        self.assertEqual(got[2:], [[-2], [-8], [1, 1, 3, 1, 2], [1], [0]])


if __name__ == "__main__":
    unittest.main()

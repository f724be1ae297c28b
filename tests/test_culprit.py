"""Promise 7: culprit."""

import unittest

from tests.lines import FAR, culprit, each_is_needed, items, last, rule, rules, run


class Passes(unittest.TestCase):
    def test_0_and_one_try(self):
        self.assertEqual(last(items(6), culprit(0, 1, 2)), [0, 1])
        self.assertEqual(last(items(6), rule([5]), rule([0, 3]), culprit(0, 1, 2)), [0, 1])

    def test_the_empty_batch(self):
        self.assertEqual(run(culprit(), items(6), rule([0]), culprit()), [[0, 1], [6], [0], [0, 1]])

    def test_a_cure_makes_the_whole_pass(self):
        self.assertEqual(last(items(6), rule([2], [0]), culprit(2, 1, 0)), [0, 1])
        self.assertEqual(last(items(6), rule([], [0]), culprit(0)), [0, 1])


class Culprit(unittest.TestCase):
    def test_a_round_that_leaves_out_nothing(self):
        self.assertEqual(last(items(6), rule([2]), culprit(2)), [1, 2, 1, 2])
        self.assertEqual(last(items(6), rule([1, 3]), culprit(3, 1)), [1, 3, 2, 3, 1])

    def test_the_last_round_is_counted(self):
        # 1 for the batch, 3 for the first round, 1 for the second.
        self.assertEqual(last(items(6), rule([1]), culprit(0, 1, 2)), [1, 5, 1, 1])

    def test_from_the_last_to_the_first(self):
        line = [items(6), rule([0]), rule([1])]
        self.assertEqual(last(*line, culprit(0, 1)), [1, 4, 1, 0])
        self.assertEqual(last(*line, culprit(1, 0)), [1, 4, 1, 1])

    def test_the_items_in_the_order_of_the_batch(self):
        self.assertEqual(last(items(6), rule([1, 3, 5]), culprit(5, 0, 3, 2, 1)), [1, 9, 3, 5, 3, 1])

    def test_a_second_round_leaves_out_more(self):
        # While the cure 1 is there 2 can't be left out; 1 is left out at the end of the first round.
        line = [items(3), rule([0], [1]), rule([0, 2])]
        self.assertEqual(last(*line, culprit(1, 0, 2)), [1, 1 + 3 + 2 + 1, 1, 0])

    def test_a_third_round_leaves_out_more(self):
        line = [items(4), rule([0], [1, 2]), rule([0, 3], [1]), rule([0, 2, 3])]
        self.assertEqual(last(*line, culprit(0, 1, 2, 3)), [1, 1 + 4 + 3 + 2 + 1, 1, 0])

    def test_a_round_goes_on_with_what_was_left_out_already(self):
        # 2 is left out first; then 1 can't be, as without both nothing is left that fails.
        line = [items(3), rule([0, 1]), rule([0, 2])]
        self.assertEqual(last(*line, culprit(0, 1, 2)), [1, 1 + 3 + 2, 2, 0, 1])

    def test_an_empty_batch_that_fails(self):
        self.assertEqual(last(items(6), rule([]), culprit()), [1, 1, 0])
        self.assertEqual(last(items(6), rule([], [3]), culprit()), [1, 1, 0])

    def test_nothing_at_all_fails(self):
        self.assertEqual(last(items(6), rule([]), culprit(2, 0)), [1, 3, 0])
        self.assertEqual(last(items(6), rule([], [1]), culprit(0)), [1, 2, 0])

    def test_24_items(self):
        self.assertEqual(last(items(24), rule([23, 0]), culprit(*range(24))), [1, 1 + 24 + 2, 2, 0, 23])

    def test_without_any_single_one_the_others_pass(self):
        line = [items(8), rule([0, 5], [3]), rule([1, 6]), rule([0, 2, 4], [7]), rule([7, 3])]
        batch = [7, 2, 5, 0, 3, 6, 4, 1]
        for length in range(len(batch) + 1):
            got = last(*line, culprit(*batch[:length]))
            if got[0] == 1:
                found = got[3:]
                self.assertEqual(len(found), got[2])
                self.assertTrue(each_is_needed(line, found), found)


class Refused(unittest.TestCase):
    def test_a_number_that_is_no_item(self):
        for number in (-1, 6, FAR, -FAR):
            for batch in ([number], [3, number], [number, 3]):
                self.assertEqual(last(items(6), rule([3]), culprit(*batch)), [-2])

    def test_a_number_twice(self):
        for batch in ([0, 0], [3, 1, 3], [2] * 40):
            self.assertEqual(last(items(6), rule([]), culprit(*batch)), [-2])

    def test_leaves_everything(self):
        got = run(items(6), rule([3], [2]), culprit(6), rules(), culprit(5, 3))
        self.assertEqual(got[2:], [[-2], [1, 1, 3, 1, 2], [1, 1 + 2 + 1, 1, 3]])


if __name__ == "__main__":
    unittest.main()

"""Promise 5: first."""

import unittest

from tests.lines import FAR, first, items, last, rule, rules, run


class First(unittest.TestCase):
    def test_0_where_no_beginning_fails(self):
        self.assertEqual(last(items(6), first(0, 1, 2)), [0])
        self.assertEqual(last(items(6), rule([5]), first(0, 1, 2)), [0])
        self.assertEqual(last(items(6), rule([2], [0]), first(0, 1, 2)), [0])

    def test_0_for_the_empty_batch(self):
        self.assertEqual(run(first(), items(6), rule([0]), first()), [[0], [6], [0], [0]])

    def test_1_and_0_where_nothing_at_all_fails(self):
        for told in (([], []), ([], [2])):
            for batch in ([], [0], [2, 1], [0, 1, 2]):
                self.assertEqual(last(items(6), rule(*told), first(*batch)), [1, 0])

    def test_the_shortest_of_several(self):
        self.assertEqual(last(items(6), rule([4]), rule([1, 3]), first(0, 1, 3, 4, 5)), [1, 3])
        self.assertEqual(last(items(6), rule([4]), rule([1, 3]), first(3, 4, 1)), [1, 2])

    def test_the_first_item_alone(self):
        self.assertEqual(last(items(6), rule([4]), first(4, 0, 1)), [1, 1])

    def test_the_whole_alone_fails(self):
        self.assertEqual(last(items(6), rule([5, 0, 2]), first(5, 2, 1, 0)), [1, 4])
        self.assertEqual(last(items(6), rule([3]), first(3)), [1, 1])
        self.assertEqual(last(items(24), rule([23]), first(*range(24))), [1, 24])

    def test_a_beginning_fails_while_the_whole_passes(self):
        self.assertEqual(last(items(6), rule([1], [4]), first(0, 1, 2, 4, 5)), [1, 2])
        self.assertEqual(last(items(6), rule([2], [4]), first(0, 1, 2, 4)), [1, 3])

    def test_beginnings_that_fail_with_passing_ones_between(self):
        self.assertEqual(last(items(8), rule([1], [2]), rule([6]), first(0, 1, 2, 3, 4, 5, 6)), [1, 2])

    def test_hangs_on_the_order_of_the_batch(self):
        line = [items(6), rule([1], [4])]
        self.assertEqual(last(*line, first(1, 4, 0)), [1, 1])
        self.assertEqual(last(*line, first(4, 1, 0)), [0])

    def test_refuses_a_number_that_is_no_item(self):
        for number in (-1, 6, FAR, -FAR):
            for batch in ([number], [3, number], [number, 3]):
                self.assertEqual(last(items(6), rule([3]), first(*batch)), [-2])

    def test_refuses_a_number_twice(self):
        for batch in ([0, 0], [3, 1, 3], [2] * 40):
            self.assertEqual(last(items(6), rule([]), first(*batch)), [-2])

    def test_a_refused_one_leaves_everything(self):
        self.assertEqual(run(items(6), rule([3]), first(6), rules(), first(5, 3))[2:], [[-2], [1, 1, 3, 0], [1, 2]])


if __name__ == "__main__":
    unittest.main()

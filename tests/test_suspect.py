"""Promise 6: suspect."""

import unittest

from tests.lines import FAR, fails, first, items, last, rule, rules, run, suspect


class Passes(unittest.TestCase):
    def test_0_and_one_try(self):
        self.assertEqual(last(items(6), suspect(0, 1, 2)), [0, 1])
        self.assertEqual(last(items(6), rule([5]), rule([0, 3]), suspect(0, 1, 2)), [0, 1])

    def test_the_empty_batch(self):
        self.assertEqual(run(suspect(), items(6), rule([0]), suspect()), [[0, 1], [6], [0], [0, 1]])

    def test_a_cure_makes_the_whole_pass(self):
        self.assertEqual(last(items(6), rule([2], [0]), suspect(2, 1, 0)), [0, 1])

    def test_while_nothing_at_all_fails(self):
        self.assertEqual(last(items(6), rule([], [3]), suspect(3)), [0, 1])


class BaseFails(unittest.TestCase):
    def test_2_and_two_tries(self):
        for told in (([], []), ([], [5])):
            for batch in ([], [0], [2, 1], [4, 3, 2, 1, 0]):
                self.assertEqual(last(items(6), rule(*told), suspect(*batch)), [2, 2])

    def test_where_an_item_fails_too(self):
        self.assertEqual(last(items(6), rule([1]), rule([]), suspect(0, 1)), [2, 2])

    def test_where_there_are_no_items(self):
        self.assertEqual(run(rule([]), suspect()), [[0], [2, 2]])


class Suspect(unittest.TestCase):
    def test_every_place_of_five(self):
        batch = [7, 3, 0, 5, 2]
        for place, tries in ((0, 4), (1, 4), (2, 4), (3, 5), (4, 5)):
            got = last(items(8), rule([batch[place]]), suspect(*batch))
            self.assertEqual(got, [1, tries, place, batch[place]])

    def test_every_place_of_eight(self):
        for place in range(8):
            got = last(items(8), rule([place]), suspect(*range(8)))
            self.assertEqual(got, [1, 5, place, place])

    def test_the_first_and_the_last_place_of_24(self):
        # 12, 6, 3, 1 for the first; 12, 18, 21, 22, 23 for the last.
        self.assertEqual(last(items(24), rule([0]), suspect(*range(24))), [1, 6, 0, 0])
        self.assertEqual(last(items(24), rule([23]), suspect(*range(24))), [1, 7, 23, 23])

    def test_one_item(self):
        self.assertEqual(last(items(6), rule([3]), suspect(3)), [1, 2, 0, 3])

    def test_two_items(self):
        self.assertEqual(last(items(6), rule([3]), suspect(3, 1)), [1, 3, 0, 3])
        self.assertEqual(last(items(6), rule([3]), suspect(1, 3)), [1, 3, 1, 3])

    def test_items_that_fail_together(self):
        line = [items(6), rule([1, 4])]
        self.assertEqual(last(*line, suspect(0, 1, 2, 3, 4)), [1, 5, 4, 4])
        self.assertEqual(last(*line, suspect(4, 0, 1)), [1, 4, 2, 1])

    def test_the_first_of_several(self):
        self.assertEqual(last(items(8), rule([6]), rule([2]), rule([4]), suspect(*range(8))), [1, 5, 2, 2])

    def test_a_cure_makes_a_longer_beginning_pass_again(self):
        batch = [0, 1, 2, 3, 4, 5, 6, 7]
        got = run(items(8), rule([1], [2]), rule([6]), first(*batch), suspect(*batch))
        self.assertEqual(got[3:], [[1, 2], [1, 5, 6, 6]])

    def test_a_cure_sends_the_halving_to_the_front(self):
        # The first 2 fail, the first 3 pass, and only the first 4 (the whole) fail again.
        got = last(items(4), rule([1], [2]), rule([3]), suspect(0, 1, 2, 3))
        self.assertEqual(got, [1, 4, 1, 1])

    def test_those_before_pass_and_with_it_they_fail(self):
        batch = [5, 0, 7, 2, 4, 1, 3, 6]
        line = [items(8), rule([0], [7]), rule([2, 4], [3]), rule([3]), rule([5, 6], [1])]
        for length in range(len(batch) + 1):
            part = batch[:length]
            got = last(*line, suspect(*part))
            if got[0] == 1:
                place = got[2]
                self.assertEqual(got[3], part[place])
                self.assertEqual(run(*line, fails(*part[:place]), fails(*part[:place + 1]))[-2:], [[0], [1]])


class Refused(unittest.TestCase):
    def test_a_number_that_is_no_item(self):
        for number in (-1, 6, FAR, -FAR):
            for batch in ([number], [3, number], [number, 3]):
                self.assertEqual(last(items(6), rule([3]), suspect(*batch)), [-2])

    def test_a_number_twice(self):
        for batch in ([0, 0], [3, 1, 3], [2] * 40):
            self.assertEqual(last(items(6), rule([]), suspect(*batch)), [-2])

    def test_leaves_everything(self):
        got = run(items(6), rule([3], [2]), suspect(6), rules(), suspect(5, 3))
        self.assertEqual(got[2:], [[-2], [1, 1, 3, 1, 2], [1, 3, 1, 3]])


if __name__ == "__main__":
    unittest.main()

"""Promise 2: rule and lift."""

import unittest

from tests.lines import FAR, fails, items, last, lift, rule, rules, run, why

NOT_ITEMS = (-1, 8, 9, -FAR, FAR)


def full_line(n=24):
    """A line with 16 rules, rule k with the bad item k alone."""
    return [items(n)] + [rule([k]) for k in range(16)]


def line_of(*bad):
    """A line with a rule for each of these items, which is its one bad item."""
    return [items(24)] + [rule([item]) for item in bad]


class RuleGranted(unittest.TestCase):
    def test_answers_the_number_from_0_on(self):
        self.assertEqual(run(items(8), rule([1], [2]), rule([3]), rule([], [4])), [[8], [0], [1], [2]])

    def test_goes_behind_the_others(self):
        got = last(items(8), rule([1], [2]), rule([3]), rule([0], [7, 6]), rules())
        self.assertEqual(got, [3, 1, 1, 1, 2, 1, 3, 0, 1, 0, 2, 7, 6])

    def test_without_bad_items_and_cures(self):
        got = run(items(8), rule([], []), rules(), fails(), fails(*range(8)))
        self.assertEqual(got, [[8], [0], [1, 0, 0], [1], [1]])

    def test_without_bad_items_and_cures_where_there_are_no_items(self):
        self.assertEqual(run(rule([], []), fails(), items(0), rule([], []), fails()), [[0], [1], [0], [0], [1]])

    def test_an_item_in_both_lists_is_granted_and_never_met(self):
        got = run(items(3), rule([1, 2], [1]), rules(), fails(1, 2), fails(2), fails(), why(0, 1, 2))
        self.assertEqual(got, [[3], [0], [1, 2, 1, 2, 1, 1], [0], [0], [0], [0]])

    def test_the_same_rule_twice(self):
        self.assertEqual(run(items(3), rule([1], [2]), rule([1], [2]), why(1))[1:], [[0], [1], [2, 0, 1]])

    def test_6_numbers_in_either_list(self):
        six = [5, 4, 3, 2, 1, 0]
        self.assertEqual(last(items(8), rule(six)), [0])
        self.assertEqual(last(items(8), rule([], six)), [0])
        self.assertEqual(last(items(8), rule(six, six)), [0])

    def test_the_least_and_the_greatest_item(self):
        self.assertEqual(run(items(8), rule([0, 7]), rule([], [7, 0])), [[8], [0], [1]])

    def test_the_16th(self):
        self.assertEqual(run(*full_line())[1:], [[k] for k in range(16)])


class RuleRefused(unittest.TestCase):
    def assert_refused(self, refusal, *told):
        """The refusal, and that the rule which was there is there alone as it was."""
        got = run(items(8), rule([1], [2]), rule(*told), rules(), rule([3]))
        self.assertEqual(got[2:], [[refusal], [1, 1, 1, 1, 2], [1]])

    def test_7_numbers_in_either_list(self):
        seven = [0, 1, 2, 3, 4, 5, 6]
        self.assert_refused(-2, seven, [])
        self.assert_refused(-2, [], seven)
        self.assert_refused(-2, seven, seven)

    def test_40_numbers_in_either_list(self):
        self.assert_refused(-2, list(range(40)), [])
        self.assert_refused(-2, [], [0] * 40)

    def test_a_number_that_is_no_item(self):
        for number in NOT_ITEMS:
            self.assert_refused(-2, [number], [])
            self.assert_refused(-2, [], [number])
            self.assert_refused(-2, [0, 1, number], [2])
            self.assert_refused(-2, [2], [number, 0, 1])

    def test_any_number_where_there_are_no_items(self):
        self.assertEqual(run(rule([0]), rule([], [0]), rules()), [[-2], [-2], [0]])

    def test_a_number_twice_in_one_list(self):
        self.assert_refused(-2, [3, 3], [])
        self.assert_refused(-2, [], [3, 3])
        self.assert_refused(-2, [3, 4, 5, 3], [0])
        self.assert_refused(-2, [0], [4, 3, 5, 3])

    def test_the_17th(self):
        got = run(*full_line(), rule([17]), rule([], []), why(*range(24)))
        self.assertEqual(got[17:], [[-7], [-7], [16] + list(range(16))])

    def test_not_a_batch_ahead_of_too_many(self):
        for told in (([24], []), ([], [-1]), ([3, 3], []), ([], [3, 3]), (range(7), []), ([], range(7))):
            self.assertEqual(last(*full_line(), rule(*told)), [-2])

    def test_the_next_call_is_read_behind_a_refused_one(self):
        self.assertEqual(run(items(8), rule([FAR, 3], [3, 3, 2]), fails(1)), [[8], [-2], [0]])


class Lift(unittest.TestCase):
    def test_the_first_a_middle_and_the_last(self):
        for k, left in ((0, (6, 7, 8)), (1, (5, 7, 8)), (2, (5, 6, 8)), (3, (5, 6, 7))):
            got = run(*line_of(5, 6, 7, 8), lift(k), rules(), why(8, 7, 6, 5))
            told = [number for item in left for number in (1, item, 0)]
            self.assertEqual(got[5:], [[3], [3] + told, [3, 0, 1, 2]])

    def test_those_behind_get_numbers_less_by_1(self):
        for k, of_5, of_7 in ((0, [0], [1, 1]), (1, [1, 0], [1, 1]), (2, [1, 0], [0])):
            got = run(*line_of(5, 6, 7), lift(k), why(5), why(7))
            self.assertEqual(got[4:], [[2], of_5, of_7])

    def test_those_ahead_keep_their_numbers(self):
        self.assertEqual(last(*line_of(5, 6, 7), lift(2), why(5, 6)), [2, 0, 1])

    def test_the_only_one(self):
        self.assertEqual(run(items(3), rule([1]), lift(0), rules(), fails(1))[2:], [[0], [0], [0]])

    def test_leaves_the_items(self):
        self.assertEqual(run(items(3), rule([1]), lift(0), fails(2), fails(3))[2:], [[0], [0], [-2]])

    def test_a_rule_after_it_gets_the_next_number(self):
        got = run(*line_of(5, 6, 7), lift(0), rule([9]), rules())
        self.assertEqual(got[4:], [[2], [2], [3, 1, 6, 0, 1, 7, 0, 1, 9, 0]])

    def test_makes_room_for_a_16th(self):
        self.assertEqual(run(*full_line(), lift(15), rule([20]), rule([21]))[17:], [[15], [15], [-7]])

    def test_one_after_another(self):
        got = run(*line_of(5, 6, 7), lift(0), lift(0), lift(0), lift(0))
        self.assertEqual(got[4:], [[2], [1], [0], [-1]])

    def test_refuses_where_there_is_no_such_rule(self):
        for k in (-1, 3, 4, -3, -4, FAR, -FAR):
            got = run(*line_of(5, 6, 7), lift(k), rules(), fails(23))
            self.assertEqual(got[4:], [[-1], [3, 1, 5, 0, 1, 6, 0, 1, 7, 0], [0]])

    def test_refuses_where_there_are_no_rules(self):
        for k in (-1, 0, 1, FAR, -FAR):
            self.assertEqual(run(lift(k), items(3), lift(k)), [[-1], [3], [-1]])


if __name__ == "__main__":
    unittest.main()

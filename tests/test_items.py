"""Promise 1: items."""

import unittest

from tests.lines import FAR, fails, items, rule, rules, run


class Items(unittest.TestCase):
    def test_answers_how_many(self):
        for n in (0, 1, 7, 23, 24):
            self.assertEqual(run(items(n)), [[n]])

    def test_refuses_what_is_not_from_0_to_24(self):
        for n in (-1, 25, -FAR, FAR, -24, 1000):
            self.assertEqual(run(items(n)), [[-1]])

    def test_the_items_are_0_to_n_less_1(self):
        for n in (1, 5, 24):
            self.assertEqual(run(items(n), fails(*range(n)), fails(n)), [[n], [0], [-2]])

    def test_no_items_with_n_0(self):
        self.assertEqual(run(items(0), fails(), fails(0)), [[0], [0], [-2]])

    def test_a_later_one_stands_in_place_of_the_earlier(self):
        got = run(items(5), items(2), fails(1), fails(2), items(3), fails(2))
        self.assertEqual(got, [[5], [2], [0], [-2], [3], [0]])

    def test_takes_the_rules_away(self):
        for n in (3, 4, 24):
            got = run(items(4), rule([0]), rule([], [1]), items(n), rules(), fails(0), rule([2]))
            self.assertEqual(got[3:], [[n], [0], [0], [0]])

    def test_takes_the_rules_away_with_the_same_n(self):
        self.assertEqual(run(items(4), rule([0]), items(4), rules())[2:], [[4], [0]])

    def test_takes_the_rules_away_with_n_0(self):
        self.assertEqual(run(items(1), rule([]), items(0), rules(), fails())[2:], [[0], [0], [0]])

    def test_a_refused_one_leaves_items_and_rules(self):
        for n in (-1, 25, -FAR, FAR):
            got = run(items(4), rule([3], [1]), items(n), rules(), fails(3), fails(3, 1), fails(4))
            self.assertEqual(got[2:], [[-1], [1, 1, 3, 1, 1], [1], [0], [-2]])


if __name__ == "__main__":
    unittest.main()

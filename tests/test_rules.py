"""Promise 3: rules."""

import unittest

from tests.lines import fails, first, items, last, rule, rules, run, why


class Rules(unittest.TestCase):
    def test_none(self):
        self.assertEqual(run(rules(), items(5), rules()), [[0], [5], [0]])

    def test_one(self):
        self.assertEqual(last(items(5), rule([4, 2], [3]), rules()), [1, 2, 4, 2, 1, 3])

    def test_several_with_empty_lists_among_them(self):
        got = last(items(9), rule([8, 1]), rule([], [2, 0, 7]), rule([], []), rule([3], [4]), rules())
        self.assertEqual(got, [4, 2, 8, 1, 0, 0, 3, 2, 0, 7, 0, 0, 1, 3, 1, 4])

    def test_the_longest(self):
        bad = [23, 0, 22, 1, 21, 2]
        cure = [3, 20, 4, 19, 5, 18]
        got = last(items(24), *[rule(bad, cure)] * 16, rules())
        self.assertEqual(got, [16] + ([6] + bad + [6] + cure) * 16)

    def test_asking_changes_nothing(self):
        asked = [rules(), fails(4), why(4), first(4, 3), fails(9), rules()]
        got = run(items(5), rule([4], [3]), *asked)
        self.assertEqual(got[2], [1, 1, 4, 1, 3])
        self.assertEqual(got[-1], got[2])


if __name__ == "__main__":
    unittest.main()

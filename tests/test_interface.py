"""The interface: one list of calls in, one list of answers back."""

import contextlib
import io
import unittest

from batchculprits.batches import answers
from tests.lines import FAR, fails, first, items, lift, rule, rules, run, why


class Interface(unittest.TestCase):
    def test_several_calls_in_one_list(self):
        calls = [
            0, 5,
            1, 2, 1, 3, 1, 4,
            1, 0, 0,
            3,
            5, 3, 3, 0, 1,
            2, 1,
            4, 2, 1, 3,
            4, 3, 1, 3, 4,
            6, 4, 0, 3, 1, 4,
            6, 0,
        ]
        expected = [
            1, 5,
            1, 0,
            1, 1,
            8, 2, 2, 1, 3, 1, 4, 0, 0,
            3, 2, 0, 1,
            1, 1,
            1, 1,
            1, 0,
            2, 1, 3,
            1, 0,
        ]
        self.assertEqual(answers(calls), expected)

    def test_a_refusal_is_its_number_alone(self):
        calls = [0, 25, 0, 2, 1, 1, 2, 0, 2, 0, 4, 1, 2, 5, 2, 0, 0, 6, 1, -FAR]
        self.assertEqual(answers(calls), [1, -1, 1, 2, 1, -2, 1, -1, 1, -2, 1, -2, 1, -2])

    def test_too_many_is_its_number_alone(self):
        self.assertEqual(answers([1, 0, 0] * 17)[-4:], [1, 15, 1, -7])

    def test_any_call_may_be_first(self):
        firsts = [items(3), rule([]), lift(0), rules(), fails(), why(), first()]
        self.assertEqual([answers(call) for call in firsts],
                         [[1, 3], [1, 0], [1, -1], [1, 0], [1, 0], [1, 0], [1, 0]])

    def test_a_new_list_begins_without_items_and_rules(self):
        answers(items(5) + rule([], []))
        self.assertEqual(run(rules(), fails(), fails(0), rule([])), [[0], [0], [-2], [0]])

    def test_the_same_list_has_the_same_answers_again(self):
        calls = items(5) + rule([1], [2]) + rule([]) + lift(1) + rules() + why(1, 3)
        earlier = answers(calls)
        self.assertEqual(answers(calls), earlier)

    def test_what_is_given_back_is_not_kept(self):
        calls = items(5) + rule([1], [2]) + rules()
        earlier = answers(calls)
        kept = list(earlier)
        earlier.clear()
        self.assertEqual(answers(calls), kept)

    def test_the_list_handed_in_is_as_it_was(self):
        calls = items(5) + rule([4, 1], [2]) + rule([9]) + why(4, 1) + first(2, 0) + rules() + lift(0) + fails(0, 0)
        kept = list(calls)
        answers(calls)
        self.assertEqual(calls, kept)

    def test_the_list_handed_in_is_not_changed_for_a_while_either(self):
        calls = OnlyRead(items(5) + rule([4, 1], [2]) + lift(0) + why(4, 1) + first(2, 0) + fails(0, 0))
        self.assertEqual(answers(calls), answers(list(calls)))

    def test_400_calls_with_long_lists(self):
        batch = list(range(24)) + [FAR] * 16
        got = run(items(24), *[fails(*batch)] * 398, fails(*range(24)))
        self.assertEqual(got, [[24]] + [[-2]] * 398 + [[0]])

    def test_whole_numbers_alone_are_given_back(self):
        calls = items(5) + rule([1], [2]) + fails(1) + fails(2) + why(1) + first(0, 1) + rules() + lift(3)
        told = answers(calls)
        self.assertIs(type(told), list)
        self.assertEqual({type(number) for number in told}, {int})

    def test_prints_nothing(self):
        printed = io.StringIO()
        with contextlib.redirect_stdout(printed), contextlib.redirect_stderr(printed):
            answers(items(5) + rule([1], [2]) + rules() + why(1) + first(9))
        self.assertEqual(printed.getvalue(), "")


def refuse_change(self, *told, **named):
    raise AssertionError("the list was changed")


class OnlyRead(list):
    """A list that can't be changed."""

    append = extend = insert = pop = remove = reverse = sort = clear = refuse_change
    __setitem__ = __delitem__ = __iadd__ = __imul__ = refuse_change


if __name__ == "__main__":
    unittest.main()

"""The interface: one list of calls in, one list of answers back."""

import contextlib
import io
import unittest

from batchculprits.batches import answers
from tests.lines import (
    FAR, culprit, fails, first, items, land, lift, pairs, quick, rule, rules, run, smallest, suspect, why)

QUESTIONS = (
    rules(), fails(1, 3), why(3, 0, 1), first(0, 3, 1, 4), suspect(0, 3, 1, 2), culprit(0, 3, 1, 2), quick(3, 1),
    smallest(4, 3, 2, 1, 0), land(0, 3, 0, 1, 2), land(1, 3, 0, 1, 2), land(2, 3, 0, 1, 2), pairs())
REFUSED = (
    items(-1), items(25), rule([5]), rule([], [1, 1]), lift(-1), lift(16), fails(5), why(1, 1), first(-1),
    suspect(5), culprit(2, 2), quick(FAR), smallest(0, 0), land(3, 0), land(0, 5), land(1, -FAR), land(2, 1, 1))


def together(calls):
    return [number for call in calls for number in call]


def everything():
    """A list with every call, granted and refused."""
    asked = together(QUESTIONS) + together(REFUSED)
    return items(5) + rule([1, 3]) + asked + rule([2], [4]) + asked + lift(0) + asked + items(5) + asked


class Interface(unittest.TestCase):
    def test_several_calls_in_one_list(self):
        calls = [
            0, 5,
            1, 2, 1, 3, 1, 4,
            1, 0, 0,
            3,
            5, 3, 3, 0, 1,
            2, 1,
            4, 2, 1, 3,
            4, 3, 1, 3, 4,
            6, 4, 0, 3, 1, 4,
            6, 0,
        ]
        expected = [
            1, 5,
            1, 0,
            1, 1,
            8, 2, 2, 1, 3, 1, 4, 0, 0,
            3, 2, 0, 1,
            1, 1,
            1, 1,
            1, 0,
            2, 1, 3,
            1, 0,
        ]
        self.assertEqual(answers(calls), expected)

    def test_every_call_in_one_list_with_refusals_among_them(self):
        calls = [
            0, 5,
            1, 2, 1, 3, 0,
            7, 4, 0, 1, 2, 3,
            7, 1, 5,
            8, 3, 3, 0, 1,
            8, 2, 1, 1,
            9, 4, 3, 2, 1, 0,
            9, 1, -1,
            10, 3, 3, 2, 1,
            10, 1, FAR,
            11, 0, 3, 1, 2, 3,
            11, 1, 3, 1, 2, 3,
            11, 2, 3, 1, 2, 3,
            11, 3, 1, 9,
            11, 2, 1, 9,
            12,
            1, 1, 0, 1, 4,
            9, 0,
            9, 1, 5,
            2, 2,
            2, 1,
            9, 0,
            3,
        ]
        expected = [
            1, 5,
            1, 0,
            4, 1, 4, 3, 3,
            1, -2,
            5, 1, 6, 2, 3, 1,
            1, -2,
            5, 1, 6, 2, 3, 1,
            1, -2,
            4, 1, 2, 1, 3,
            1, -2,
            10, 0, 5, 2, 1, 2, 1, 3, 2, 1, 2,
            10, 0, 6, 2, 1, 2, 1, 3, 2, 1, 2,
            10, 0, 4, 2, 1, 2, 1, 3, 2, 1, 2,
            1, -1,
            1, -2,
            3, 1, 1, 3,
            1, 1,
            1, -8,
            1, -2,
            1, -1,
            1, 1,
            2, 0, 1,
            5, 1, 2, 1, 3, 0,
        ]
        self.assertEqual(answers(calls), expected)

    def test_a_refusal_is_its_number_alone(self):
        calls = [0, 25, 0, 2, 1, 1, 2, 0, 2, 0, 4, 1, 2, 5, 2, 0, 0, 6, 1, -FAR]
        self.assertEqual(answers(calls), [1, -1, 1, 2, 1, -2, 1, -1, 1, -2, 1, -2, 1, -2])

    def test_too_many_is_its_number_alone(self):
        self.assertEqual(answers([1, 0, 0] * 17)[-4:], [1, 15, 1, -7])

    def test_any_call_may_be_first(self):
        firsts = [items(3), rule([]), lift(0), rules(), fails(), why(), first()]
        self.assertEqual([answers(call) for call in firsts],
                         [[1, 3], [1, 0], [1, -1], [1, 0], [1, 0], [1, 0], [1, 0]])
        firsts = [suspect(), culprit(), quick(), smallest(), land(0), land(1), land(2), pairs()]
        self.assertEqual([answers(call) for call in firsts],
                         [[2, 0, 1]] * 3 + [[1, 0]] + [[4, 0, 1, 0, 0]] * 3 + [[1, 0]])

    def test_a_question_changes_nothing(self):
        line = [items(5), rule([1, 3]), rule([2, 0])]
        alone = [run(*line, question)[-1] for question in QUESTIONS]
        self.assertEqual(run(*line, *QUESTIONS)[3:], alone)
        self.assertEqual(run(*line, *QUESTIONS[::-1])[3:], alone[::-1])
        self.assertEqual(run(*line, *QUESTIONS, *QUESTIONS)[3:], alone * 2)

    def test_a_refusal_changes_nothing(self):
        line = [items(5), rule([1, 3]), rule([2, 0])]
        expected = run(*line, *QUESTIONS)[3:]
        for refused in REFUSED:
            got = run(*line, refused, *QUESTIONS)[3:]
            self.assertIn(got[0], ([-1], [-2]))
            self.assertEqual(got[1:], expected)

    def test_a_new_list_begins_without_items_and_rules(self):
        answers(items(5) + rule([], []))
        self.assertEqual(run(rules(), fails(), fails(0), rule([])), [[0], [0], [-2], [0]])

    def test_the_same_list_has_the_same_answers_again(self):
        for calls in (items(5) + rule([1], [2]) + rule([]) + lift(1) + rules() + why(1, 3), everything()):
            earlier = answers(calls)
            self.assertEqual(answers(calls), earlier)

    def test_what_is_given_back_is_not_kept(self):
        calls = items(5) + rule([1], [2]) + rules()
        earlier = answers(calls)
        kept = list(earlier)
        earlier.clear()
        self.assertEqual(answers(calls), kept)

    def test_the_list_handed_in_is_as_it_was(self):
        calls = everything()
        kept = list(calls)
        answers(calls)
        self.assertEqual(calls, kept)

    def test_the_list_handed_in_is_not_changed_for_a_while_either(self):
        calls = OnlyRead(everything())
        self.assertEqual(answers(calls), answers(list(calls)))

    def test_400_calls_with_long_lists(self):
        batch = list(range(24)) + [FAR] * 16
        got = run(items(24), *[fails(*batch)] * 398, fails(*range(24)))
        self.assertEqual(got, [[24]] + [[-2]] * 398 + [[0]])

    def test_400_calls_of_every_sort(self):
        line = [items(24)] + [rule([k, k + 8]) for k in range(16)]
        batch = list(range(23, -1, -1))
        asked = [suspect(*batch), culprit(*batch), quick(*batch), smallest(*batch[:10]), smallest(*batch)]
        asked += [land(way, *batch) for way in (-1, 0, 1, 2)] + [pairs(), rules(), fails(*batch), why(*batch)]
        alone = run(*line, *asked)[17:]
        got = run(*line, *(asked * 30)[:383])
        self.assertEqual(len(got), 400)
        self.assertEqual(got[17:], (alone * 30)[:383])

    def test_whole_numbers_alone_are_given_back(self):
        told = answers(everything())
        self.assertIs(type(told), list)
        self.assertEqual({type(number) for number in told}, {int})

    def test_prints_nothing(self):
        printed = io.StringIO()
        with contextlib.redirect_stdout(printed), contextlib.redirect_stderr(printed):
            answers(everything())
        self.assertEqual(printed.getvalue(), "")


def refuse_change(self, *told, **named):
    raise AssertionError("the list was changed")


class OnlyRead(list):
    """A list that can't be changed."""

    append = extend = insert = pop = remove = reverse = sort = clear = refuse_change
    __setitem__ = __delitem__ = __iadd__ = __imul__ = refuse_change


if __name__ == "__main__":
    unittest.main()

"""Promise 10: land."""

import unittest

from tests.lines import FAR, fails, items, land, last, rule, rules, run

WAYS = (0, 1, 2)


def each_way(line, *batch):
    """What land answers for a batch, by the ways 0, 1 and 2."""
    return run(*line, *[land(way, *batch) for way in WAYS])[-3:]


def told(stopped, tries, landed, *rejected):
    """An answer; what was rejected as pairs of an item and its witness."""
    answer = [stopped, tries, len(landed), *landed, len(rejected)]
    for item, witness in rejected:
        answer += [item, len(witness), *witness]
    return answer


def untold(answer):
    """What landed, and what was rejected as pairs of an item and its witness."""
    rest = answer[2:]
    landed = rest[1:1 + rest[0]]
    rest = rest[1 + rest[0]:]
    rejected = []
    count, rest = rest[0], rest[1:]
    for turn in range(count):
        rejected.append((rest[0], rest[2:2 + rest[1]]))
        rest = rest[2 + rest[1]:]
    if rest:
        raise ValueError("more is answered than told")
    return landed, rejected


class AllLands(unittest.TestCase):
    def test_by_each_way(self):
        got = each_way([items(6), rule([5]), rule([0, 4])], 2, 0, 1)
        self.assertEqual(got, [[0, 1, 3, 2, 0, 1, 0], [0, 2, 3, 2, 0, 1, 0], [0, 4, 3, 2, 0, 1, 0]])

    def test_the_empty_batch(self):
        for line in ([], [items(6), rule([0])]):
            self.assertEqual(each_way(line), [[0, 1, 0, 0]] * 3)

    def test_one_item(self):
        self.assertEqual(each_way([items(6)], 4), [told(0, 1, [4]), told(0, 2, [4]), told(0, 2, [4])])

    def test_24_items(self):
        everything = list(range(24))
        got = each_way([items(24)], *everything)
        self.assertEqual(got, [told(0, 1, everything), told(0, 2, everything), told(0, 25, everything)])


class SomeRejected(unittest.TestCase):
    def test_with_witnesses_in_order(self):
        got = each_way([items(6), rule([1]), rule([0, 3])], 0, 1, 2, 3, 4)
        for answer, tries in zip(got, (9, 10, 6)):
            self.assertEqual(answer, [0, tries, 3, 0, 2, 4, 2, 1, 1, 0, 3, 2, 0, 2])

    def test_an_empty_witness(self):
        got = each_way([items(6), rule([2])], 2, 0)
        for answer, tries in zip(got, (4, 4, 3)):
            self.assertEqual(answer, [0, tries, 1, 0, 1, 2, 0])

    def test_all_rejected(self):
        got = each_way([items(6), rule([0]), rule([1])], 0, 1)
        for answer, tries in zip(got, (6, 4, 3)):
            self.assertEqual(answer, [0, tries, 0, 2, 0, 0, 1, 0])

    def test_one_item(self):
        got = each_way([items(6), rule([4])], 4)
        self.assertEqual(got, [told(0, 3, [], (4, [])), told(0, 2, [], (4, [])), told(0, 2, [], (4, []))])

    def test_the_order_of_the_batch_stays(self):
        got = each_way([items(6), rule([5, 0])], 5, 3, 0, 4)
        for answer, tries in zip(got, (5, 6, 5)):
            self.assertEqual(answer, told(0, tries, [5, 3, 4], (0, [5, 3])))

    def test_by_suspects_in_the_order_they_are_found(self):
        # While 1 is tried with it 0 passes; when 2 is gone, the first half of the batch is 0 alone.
        got = last(items(4), rule([0], [1]), rule([2]), rule([3]), land(0, 0, 1, 2, 3))
        self.assertEqual(got, told(0, 11, [1], (2, [0, 1]), (0, []), (3, [1])))

    def test_by_halves_of_odd_lengths(self):
        # Of three the first half is one item.
        got = last(items(6), rule([0]), land(1, 0, 1, 2))
        self.assertEqual(got, told(0, 4, [1, 2], (0, [])))
        got = last(items(6), rule([2]), land(1, 0, 1, 2))
        self.assertEqual(got, told(0, 6, [0, 1], (2, [0, 1])))

    def test_a_witness_does_not_grow_with_what_lands_later(self):
        for way in (1, 2):
            landed, rejected = untold(last(items(8), rule([2]), rule([5]), land(way, *range(8))))
            self.assertEqual(rejected, [(2, [0, 1]), (5, [0, 1, 3, 4])])

    def test_a_cure_that_comes_later(self):
        got = each_way([items(6), rule([0], [1])], 0, 1)
        self.assertEqual(got, [told(0, 1, [0, 1]), told(0, 2, [0, 1]), told(0, 3, [1], (0, []))])

    def test_a_cure_that_comes_earlier(self):
        got = each_way([items(6), rule([0], [1]), rule([2])], 1, 0, 2)
        for answer, tries in zip(got, (5, 6, 4)):
            self.assertEqual(answer, told(0, tries, [1, 0], (2, [1, 0])))

    def test_every_witness_passes_and_fails_with_its_item(self):
        line = [items(8), rule([0, 5], [3]), rule([1, 6]), rule([2], [7]), rule([7, 3]), rule([4], [5])]
        for batch in (range(8), range(7, -1, -1), [7, 2, 5, 0, 3, 6, 4, 1]):
            for answer in each_way(line, *batch):
                landed, rejected = untold(answer)
                self.assertEqual(sorted(landed + [item for item, witness in rejected]), list(range(8)))
                self.assertEqual(last(*line, fails(*landed)), [0])
                for item, witness in rejected:
                    self.assertEqual(run(*line, fails(*witness), fails(*witness, item))[-2:], [[0], [1]])


class Stopped(unittest.TestCase):
    def test_by_each_way(self):
        for rest in (([], []), ([], [5])):
            for batch in ([0], [2, 1], [4, 3, 2, 1, 0]):
                got = each_way([items(6), rule([2]), rule(*rest)], *batch)
                self.assertEqual(got, [[1, 2, 0, 0], [1, 1, 0, 0], [1, 1, 0, 0]])

    def test_the_empty_batch(self):
        self.assertEqual(each_way([rule([])]), [[1, 2, 0, 0], [1, 1, 0, 0], [1, 1, 0, 0]])

    def test_a_batch_that_passes_while_nothing_at_all_fails(self):
        got = each_way([items(6), rule([], [0])], 0, 1)
        self.assertEqual(got, [[0, 1, 2, 0, 1, 0], [1, 1, 0, 0], [1, 1, 0, 0]])


class Refused(unittest.TestCase):
    def test_a_way_that_is_none(self):
        for way in (-1, 3, 4, -3, FAR, -FAR):
            for batch in ([], [0], [3, 1]):
                self.assertEqual(last(items(6), rule([3]), land(way, *batch)), [-1])

    def test_a_way_that_is_none_ahead_of_not_a_batch(self):
        for way in (-1, 3, FAR, -FAR):
            for batch in ([6], [-1], [FAR], [0, 0], [3] * 40):
                self.assertEqual(last(items(6), rule([3]), land(way, *batch)), [-1])

    def test_a_number_that_is_no_item(self):
        for number in (-1, 6, FAR, -FAR):
            for batch in ([number], [3, number], [number, 3]):
                self.assertEqual(each_way([items(6), rule([3])], *batch), [[-2]] * 3)

    def test_a_number_twice(self):
        for batch in ([0, 0], [3, 1, 3], [2] * 40):
            self.assertEqual(each_way([items(6), rule([])], *batch), [[-2]] * 3)

    def test_leaves_everything(self):
        got = run(items(6), rule([3], [2]), land(3, 3), land(0, 6), rules(), land(2, 5, 3))
        self.assertEqual(got[2:], [[-1], [-2], [1, 1, 3, 1, 2], [0, 3, 1, 5, 1, 3, 1, 5]])


if __name__ == "__main__":
    unittest.main()

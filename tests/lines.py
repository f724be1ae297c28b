"""Builds the calls of a line as the interface tells them, and takes its answers apart."""

from batchculprits.batches import answers

FAR = 10 ** 18


def counted(numbers):
    return [len(numbers)] + list(numbers)


def items(n):
    return [0, n]


def rule(bad, cure=()):
    return [1] + counted(bad) + counted(cure)


def lift(k):
    return [2, k]


def rules():
    return [3]


def fails(*batch):
    return [4] + counted(batch)


def why(*batch):
    return [5] + counted(batch)


def first(*batch):
    return [6] + counted(batch)


def suspect(*batch):
    return [7] + counted(batch)


def culprit(*batch):
    return [8] + counted(batch)


def quick(*batch):
    return [9] + counted(batch)


def smallest(*batch):
    return [10] + counted(batch)


def land(way, *batch):
    return [11, way] + counted(batch)


def pairs():
    return [12]


def parted(numbers):
    """The answers one by one; an error if the counts ahead of them don't come out even."""
    parts = []
    place = 0
    while place < len(numbers):
        end = place + 1 + numbers[place]
        if numbers[place] < 1 or end > len(numbers):
            raise ValueError("a count is wrong at place {}".format(place))
        parts.append(numbers[place + 1:end])
        place = end
    return parts


def run(*calls):
    """The answers to these calls on one new line, a list for each call."""
    return parted(answers([number for call in calls for number in call]))


def last(*calls):
    return run(*calls)[-1]


def each_is_needed(line, found):
    """Whether these items fail, and without any single one of them the others pass."""
    others = [[other for other in found if other != item] for item in found]
    return run(*line, fails(*found), *[fails(*part) for part in others])[len(line):] == [[1]] + [[0]] * len(found)

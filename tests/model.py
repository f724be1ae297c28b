"""The document's words over sets of items, told once more and apart from the program."""


class Model:
    def __init__(self):
        self.n = 0
        self.told = []

    def is_batch(self, numbers):
        return set(numbers) <= set(range(self.n)) and len(set(numbers)) == len(numbers)

    def met(self, batch):
        return [k for k, (bad, cure) in enumerate(self.told) if set(bad) <= set(batch) and not set(cure) & set(batch)]

    def items(self, n):
        if n not in range(25):
            return [-1]
        self.n = n
        self.told = []
        return [n]

    def rule(self, bad, cure):
        for numbers in (bad, cure):
            if len(numbers) > 6 or not self.is_batch(numbers):
                return [-2]
        if len(self.told) == 16:
            return [-7]
        self.told = self.told + [(bad, cure)]
        return [len(self.told) - 1]

    def lift(self, k):
        if k not in range(len(self.told)):
            return [-1]
        self.told = [rule for place, rule in enumerate(self.told) if place != k]
        return [len(self.told)]

    def rules(self):
        answer = [len(self.told)]
        for bad, cure in self.told:
            answer += [len(bad), *bad, len(cure), *cure]
        return answer

    def fails(self, *batch):
        return [int(self.met(batch) != [])] if self.is_batch(batch) else [-2]

    def why(self, *batch):
        return [len(self.met(batch))] + self.met(batch) if self.is_batch(batch) else [-2]

    def first(self, *batch):
        if not self.is_batch(batch):
            return [-2]
        failing = [length for length in range(len(batch) + 1) if self.met(batch[:length])]
        return [1, min(failing)] if failing else [0]

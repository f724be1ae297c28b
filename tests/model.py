"""The document's words over sets of items, told once more and apart from the program."""

from itertools import combinations


class Model:
    def __init__(self):
        self.n = 0
        self.told = []

    def is_batch(self, numbers):
        return set(numbers) <= set(range(self.n)) and len(set(numbers)) == len(numbers)

    def met(self, batch):
        return [k for k, (bad, cure) in enumerate(self.told) if set(bad) <= set(batch) and not set(cure) & set(batch)]

    def items(self, n):
        if n not in range(25):
            return [-1]
        self.n = n
        self.told = []
        return [n]

    def rule(self, bad, cure):
        for numbers in (bad, cure):
            if len(numbers) > 6 or not self.is_batch(numbers):
                return [-2]
        if len(self.told) == 16:
            return [-7]
        self.told = self.told + [(bad, cure)]
        return [len(self.told) - 1]

    def lift(self, k):
        if k not in range(len(self.told)):
            return [-1]
        self.told = [rule for place, rule in enumerate(self.told) if place != k]
        return [len(self.told)]

    def rules(self):
        answer = [len(self.told)]
        for bad, cure in self.told:
            answer += [len(bad), *bad, len(cure), *cure]
        return answer

    def fails(self, *batch):
        return [int(self.met(batch) != [])] if self.is_batch(batch) else [-2]

    def why(self, *batch):
        return [len(self.met(batch))] + self.met(batch) if self.is_batch(batch) else [-2]

    def first(self, *batch):
        if not self.is_batch(batch):
            return [-2]
        failing = [length for length in range(len(batch) + 1) if self.met(batch[:length])]
        return [1, min(failing)] if failing else [0]

    def tried(self, tried, batch):
        """Whether a batch fails, written down among what was tried."""
        tried.append(frozenset(batch))
        return any(set(bad) <= tried[-1] and tried[-1].isdisjoint(cure) for bad, cure in self.told)

    def found_suspect(self, tried, batch):
        """"passes", "base" or the suspect's place."""
        if not self.tried(tried, batch):
            return "passes"
        if self.tried(tried, ()):
            return "base"
        return self.halved(tried, batch, 0, len(batch))

    def halved(self, tried, batch, lo, hi):
        if hi <= lo + 1:
            return lo
        mid = (lo + hi) // 2
        return self.halved(tried, batch, *((lo, mid) if self.tried(tried, batch[:mid]) else (mid, hi)))

    def suspect(self, *batch):
        if not self.is_batch(batch):
            return [-2]
        tried = []
        found = self.found_suspect(tried, batch)
        if found == "passes":
            return [0, len(tried)]
        if found == "base":
            return [2, len(tried)]
        return [1, len(tried), found, batch[found]]

    def culprit(self, *batch):
        if not self.is_batch(batch):
            return [-2]
        tried = []
        if not self.tried(tried, batch):
            return [0, 1]
        there = set(batch)
        changed = True
        while changed:
            changed = False
            for item in [item for item in batch if item in there][::-1]:
                if self.tried(tried, there - {item}):
                    there.remove(item)
                    changed = True
        return [1, len(tried), len(there)] + [item for item in batch if item in there]

    def needed(self, tried, told, base, asked):
        if asked and self.tried(tried, base):
            return ()
        if len(told) < 2:
            return told
        a, b = told[:len(told) // 2], told[len(told) // 2:]
        x = self.needed(tried, b, base + a, a != ())
        y = self.needed(tried, a, base + x, x != ())
        return y + x

    def quick(self, *batch):
        if not self.is_batch(batch):
            return [-2]
        if any(cure for bad, cure in self.told):
            return [-8]
        tried = []
        if not self.tried(tried, batch):
            return [0, 1]
        found = self.needed(tried, batch, (), True)
        return [1, len(tried), len(found), *found]

    def smallest(self, *batch):
        if not self.is_batch(batch):
            return [-2]
        if len(batch) > 10:
            return [-7]
        # combinations come by number when they're drawn from what is in order.
        for length in range(len(batch) + 1):
            for part in combinations(sorted(batch), length):
                if self.met(part):
                    return [1, length, *part]
        return [0]

    def landed_by_suspects(self, tried, batch):
        """None if it's stopped; else what landed, and the rejected items with their witnesses."""
        found = self.found_suspect(tried, batch)
        if found == "passes":
            return batch, ()
        if found == "base":
            return None
        landed, rejected = self.landed_by_suspects(tried, batch[:found] + batch[found + 1:])
        return landed, ((batch[found], batch[:found]),) + rejected

    def landed_by_halves(self, tried, batch, landed):
        if not batch or not self.tried(tried, landed + batch):
            return landed + batch, ()
        if len(batch) == 1:
            return landed, ((batch[0], landed),)
        landed, front = self.landed_by_halves(tried, batch[:len(batch) // 2], landed)
        landed, rest = self.landed_by_halves(tried, batch[len(batch) // 2:], landed)
        return landed, front + rest

    def landed_one_by_one(self, tried, batch):
        landed = ()
        rejected = ()
        for item in batch:
            if self.tried(tried, landed + (item,)):
                rejected += ((item, landed),)
            else:
                landed += (item,)
        return landed, rejected

    def landing(self, tried, way, batch):
        if way == 0:
            return self.landed_by_suspects(tried, batch)
        if self.tried(tried, ()):
            return None
        return self.landed_by_halves(tried, batch, ()) if way == 1 else self.landed_one_by_one(tried, batch)

    def land(self, way, *batch):
        if way not in (0, 1, 2):
            return [-1]
        if not self.is_batch(batch):
            return [-2]
        tried = []
        told = self.landing(tried, way, batch)
        if told is None:
            return [1, len(tried), 0, 0]
        landed, rejected = told
        answer = [0, len(tried), len(landed), *landed, len(rejected)]
        for item, witness in rejected:
            answer += [item, len(witness), *witness]
        return answer

    def pairs(self):
        found = [pair for pair in combinations(range(self.n), 2)
                 if self.met(pair) and not self.met(pair[:1]) and not self.met(pair[1:])]
        return [len(found)] + [item for pair in found for item in pair]

"""The oracle: how many items there are, and the rules that tell which sets of them fail."""


class Rule:
    """Bad items that fail together, as long as none of the cures is there."""

    def __init__(self, bad, cures):
        self.bad = bad
        self.cures = cures

    def is_met_by(self, batch):
        for item in self.bad:
            if item not in batch:
                return False
        for item in self.cures:
            if item in batch:
                return False
        return True


class Oracle:
    """The items 0 to size - 1 and the rules of one line."""

    def __init__(self):
        self.size = 0
        self.rules = []

    def begin(self, size):
        self.size = size
        self.rules = []

    def are_items(self, numbers):
        """Whether each of the numbers is an item, and none is there twice."""
        for place, number in enumerate(numbers):
            if number < 0 or number >= self.size or number in numbers[:place]:
                return False
        return True

    def add_rule(self, bad, cures):
        self.rules.append(Rule(bad, cures))

    def lift_rule(self, number):
        self.rules.pop(number)

    def met_rules(self, batch):
        """The numbers of the rules that the batch meets, increasing."""
        return [number for number, rule in enumerate(self.rules) if rule.is_met_by(batch)]

    def has_cures(self):
        """Whether some rule has cures."""
        for rule in self.rules:
            if len(rule.cures) > 0:
                return True
        return False

    def fails(self, batch):
        """One try."""
        for rule in self.rules:
            if rule.is_met_by(batch):
                return True
        return False

    def least_failing_parts(self, batch):
        """Failing parts of the batch, the smallest among them if there are any, each in increasing order."""
        parts = []
        # A part that meets a rule has its bad items and none of its cures, so the bad items alone meet it too.
        for rule in self.rules:
            missing = [item for item in rule.bad if item not in batch]
            if len(missing) == 0 and rule.is_met_by(rule.bad):
                parts.append(sorted(rule.bad))
        return parts

    def failing_pairs(self):
        """The pairs of items that fail together while each alone passes, the lesser first, in order."""
        passing = [item for item in range(self.size) if not self.fails([item])]
        pairs = []
        for place, item in enumerate(passing):
            for other in passing[place + 1:]:
                if self.fails([item, other]):
                    pairs.append((item, other))
        return pairs

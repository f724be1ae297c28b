"""The oracle: how many items there are, and the rules that tell which sets of them fail."""


class Rule:
    """Bad items that fail together, as long as none of the cures is there."""

    def __init__(self, bad, cures):
        self.bad = bad
        self.cures = cures

    def is_met_by(self, batch):
        for item in self.bad:
            if item not in batch:
                return False
        for item in self.cures:
            if item in batch:
                return False
        return True


class Oracle:
    """The items 0 to size - 1 and the rules of one line."""

    def __init__(self):
        self.size = 0
        self.rules = []

    def begin(self, size):
        self.size = size
        self.rules = []

    def are_items(self, numbers):
        """Whether each of the numbers is an item, and none is there twice."""
        for place, number in enumerate(numbers):
            if number < 0 or number >= self.size or number in numbers[:place]:
                return False
        return True

    def add_rule(self, bad, cures):
        self.rules.append(Rule(bad, cures))

    def lift_rule(self, number):
        self.rules.pop(number)

    def met_rules(self, batch):
        """The numbers of the rules that the batch meets, increasing."""
        return [number for number, rule in enumerate(self.rules) if rule.is_met_by(batch)]

    def fails(self, batch):
        """One try."""
        for rule in self.rules:
            if rule.is_met_by(batch):
                return True
        return False

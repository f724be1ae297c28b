"""Counts how often the oracle is asked."""


class Tries:
    """An oracle, and how many tries were made on it for one call."""

    def __init__(self, oracle):
        self.oracle = oracle
        self.made = 0

    def fails(self, batch):
        """Whether the batch fails: one try."""
        self.made = self.made + 1
        return self.oracle.fails(batch)

"""Lands what can land of a batch, in three ways, with a witness for every item that is rejected."""

from batchculprits.blame import suspect_place


class Landing:
    """What has landed and what was rejected so far, both in order."""

    def __init__(self, tries):
        self.tries = tries
        self.is_stopped = False
        self.landed = []
        self.rejected = []

    def fails_with(self, batch):
        """Whether what has landed and the batch fail together: one try."""
        return self.tries.fails(self.landed + batch)

    def accept(self, batch):
        self.landed.extend(batch)

    def reject(self, item, witness):
        # A copy, as what has landed may be the witness and goes on growing.
        self.rejected.append((item, list(witness)))

    def stop_if_base_fails(self):
        """Whether nothing at all fails, so that the landing is stopped: one try."""
        self.is_stopped = self.tries.fails([])
        return self.is_stopped


def land_by_suspects(landing, batch):
    rest = batch
    while landing.tries.fails(rest):
        if landing.stop_if_base_fails():
            return
        place = suspect_place(landing.tries, rest)
        landing.reject(rest[place], rest[:place])
        rest = rest[:place] + rest[place + 1:]
    landing.accept(rest)


def land_part(landing, part):
    if len(part) == 0:
        return
    if not landing.fails_with(part):
        landing.accept(part)
    elif len(part) == 1:
        landing.reject(part[0], landing.landed)
    else:
        half = len(part) // 2
        land_part(landing, part[:half])
        land_part(landing, part[half:])


def land_by_halves(landing, batch):
    if not landing.stop_if_base_fails():
        land_part(landing, batch)


def land_one_by_one(landing, batch):
    if landing.stop_if_base_fails():
        return
    for item in batch:
        if landing.fails_with([item]):
            landing.reject(item, landing.landed)
        else:
            landing.accept([item])


# A way's number is its place here.
WAYS = (
    land_by_suspects,
    land_by_halves,
    land_one_by_one,
)

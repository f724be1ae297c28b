"""Finds the items of a failing batch that are to blame, with the tries counted."""


def suspect_place(tries, batch):
    """The suspect's place in a batch that fails while the set without items passes."""
    low = 0
    high = len(batch)
    while high > low + 1:
        middle = (low + high) // 2
        if tries.fails(batch[:middle]):
            high = middle
        else:
            low = middle
    return low


def after_round(tries, batch):
    """What one round leaves of a failing batch."""
    kept = batch
    for item in reversed(batch):
        others = [other for other in kept if other != item]
        if tries.fails(others):
            kept = others
    return kept


def culprit_set(tries, batch):
    """The items of a failing batch without any single one of which the others pass, in the batch's order."""
    kept = batch
    left = after_round(tries, kept)
    # An item that was left out may have been another one's cure, so one round is not enough.
    while len(left) < len(kept):
        kept = left
        left = after_round(tries, kept)
    return left


def needed(tries, numbers, base, is_asked):
    """What of a list is needed on a base with which it fails, where no rule has cures."""
    if is_asked and tries.fails(base):
        return []
    if len(numbers) <= 1:
        return list(numbers)
    half = len(numbers) // 2
    front = numbers[:half]
    of_rest = needed(tries, numbers[half:], base + front, True)
    of_front = needed(tries, front, base + of_rest, len(of_rest) > 0)
    return of_front + of_rest

"""The calls on one line of items and rules, and their answers."""

from batchculprits.blame import culprit_set, needed, suspect_place
from batchculprits.landing import Landing, WAYS
from batchculprits.oracle import Oracle
from batchculprits.reader import Reader
from batchculprits.tries import Tries

MOST_ITEMS = 24
MOST_RULES = 16
MOST_IN_RULE = 6
MOST_IN_SMALLEST = 10

# The refusals, in the order in which every call looks at them.
OUT_OF_RANGE = -1
NOT_A_BATCH = -2
TOO_MANY = -7
HAS_CURES = -8


# Every call reads all of its arguments before it may refuse: the next call begins behind them.

def call_items(oracle, reader):
    size = reader.whole()
    if size < 0 or size > MOST_ITEMS:
        return [OUT_OF_RANGE]
    oracle.begin(size)
    return [size]


def fits_rule(oracle, numbers):
    return len(numbers) <= MOST_IN_RULE and oracle.are_items(numbers)


def call_rule(oracle, reader):
    bad = reader.row()
    cures = reader.row()
    if not fits_rule(oracle, bad) or not fits_rule(oracle, cures):
        return [NOT_A_BATCH]
    number = len(oracle.rules)
    if number >= MOST_RULES:
        return [TOO_MANY]
    oracle.add_rule(bad, cures)
    return [number]


def call_lift(oracle, reader):
    number = reader.whole()
    if number < 0 or number >= len(oracle.rules):
        return [OUT_OF_RANGE]
    oracle.lift_rule(number)
    return [len(oracle.rules)]


def counted(numbers):
    return [len(numbers)] + numbers


def call_rules(oracle, reader):
    answer = [len(oracle.rules)]
    for rule in oracle.rules:
        answer.extend(counted(rule.bad))
        answer.extend(counted(rule.cures))
    return answer


def call_fails(oracle, reader):
    batch = reader.row()
    if not oracle.are_items(batch):
        return [NOT_A_BATCH]
    return [1 if oracle.fails(batch) else 0]


def call_why(oracle, reader):
    batch = reader.row()
    if not oracle.are_items(batch):
        return [NOT_A_BATCH]
    return counted(oracle.met_rules(batch))


def call_first(oracle, reader):
    batch = reader.row()
    if not oracle.are_items(batch):
        return [NOT_A_BATCH]
    # A cure may mend a longer beginning, so halving could miss the shortest that fails.
    for length in range(len(batch) + 1):
        if oracle.fails(batch[:length]):
            return [1, length]
    return [0]


def call_suspect(oracle, reader):
    batch = reader.row()
    if not oracle.are_items(batch):
        return [NOT_A_BATCH]
    tries = Tries(oracle)
    if not tries.fails(batch):
        return [0, tries.made]
    if tries.fails([]):
        return [2, tries.made]
    place = suspect_place(tries, batch)
    return [1, tries.made, place, batch[place]]


def call_culprit(oracle, reader):
    batch = reader.row()
    if not oracle.are_items(batch):
        return [NOT_A_BATCH]
    tries = Tries(oracle)
    if not tries.fails(batch):
        return [0, tries.made]
    culprits = culprit_set(tries, batch)
    return [1, tries.made] + counted(culprits)


def call_quick(oracle, reader):
    batch = reader.row()
    if not oracle.are_items(batch):
        return [NOT_A_BATCH]
    if oracle.has_cures():
        return [HAS_CURES]
    tries = Tries(oracle)
    if not tries.fails(batch):
        return [0, tries.made]
    culprits = needed(tries, batch, [], True)
    return [1, tries.made] + counted(culprits)


def call_smallest(oracle, reader):
    batch = reader.row()
    if not oracle.are_items(batch):
        return [NOT_A_BATCH]
    if len(batch) > MOST_IN_SMALLEST:
        return [TOO_MANY]
    parts = oracle.least_failing_parts(batch)
    if len(parts) == 0:
        return [0]
    # With its count ahead, a part with fewer items is less than every longer one.
    return [1] + min([counted(part) for part in parts])


def told_landing(landing):
    answer = [1 if landing.is_stopped else 0, landing.tries.made]
    answer.extend(counted(landing.landed))
    answer.append(len(landing.rejected))
    for item, witness in landing.rejected:
        answer.append(item)
        answer.extend(counted(witness))
    return answer


def call_land(oracle, reader):
    way = reader.whole()
    batch = reader.row()
    if way < 0 or way >= len(WAYS):
        return [OUT_OF_RANGE]
    if not oracle.are_items(batch):
        return [NOT_A_BATCH]
    landing = Landing(Tries(oracle))
    land = WAYS[way]
    land(landing, batch)
    return told_landing(landing)


def call_pairs(oracle, reader):
    pairs = oracle.failing_pairs()
    answer = [len(pairs)]
    for pair in pairs:
        answer.extend(pair)
    return answer


# A call's number is its place here.
CALLS = (
    call_items,
    call_rule,
    call_lift,
    call_rules,
    call_fails,
    call_why,
    call_first,
    call_suspect,
    call_culprit,
    call_quick,
    call_smallest,
    call_land,
    call_pairs,
)


def answers(calls):
    """The answers to all calls of a new line, each with how many numbers it has ahead of it."""
    oracle = Oracle()
    reader = Reader(calls)
    told = []
    while not reader.is_done():
        call = CALLS[reader.whole()]
        told.extend(counted(call(oracle, reader)))
    return told

"""The calls on one line of items and rules, and their answers."""

from batchculprits.oracle import Oracle
from batchculprits.reader import Reader

MOST_ITEMS = 24
MOST_RULES = 16
MOST_IN_RULE = 6

# The refusals, in the order in which every call looks at them.
OUT_OF_RANGE = -1
NOT_A_BATCH = -2
TOO_MANY = -7


# Every call reads all of its arguments before it may refuse: the next call begins behind them.

def call_items(oracle, reader):
    size = reader.whole()
    if size < 0 or size > MOST_ITEMS:
        return [OUT_OF_RANGE]
    oracle.begin(size)
    return [size]


def fits_rule(oracle, numbers):
    return len(numbers) <= MOST_IN_RULE and oracle.are_items(numbers)


def call_rule(oracle, reader):
    bad = reader.row()
    cures = reader.row()
    if not fits_rule(oracle, bad) or not fits_rule(oracle, cures):
        return [NOT_A_BATCH]
    number = len(oracle.rules)
    if number >= MOST_RULES:
        return [TOO_MANY]
    oracle.add_rule(bad, cures)
    return [number]


def call_lift(oracle, reader):
    number = reader.whole()
    if number < 0 or number >= len(oracle.rules):
        return [OUT_OF_RANGE]
    oracle.lift_rule(number)
    return [len(oracle.rules)]


def counted(numbers):
    return [len(numbers)] + numbers


def call_rules(oracle, reader):
    answer = [len(oracle.rules)]
    for rule in oracle.rules:
        answer.extend(counted(rule.bad))
        answer.extend(counted(rule.cures))
    return answer


def call_fails(oracle, reader):
    batch = reader.row()
    if not oracle.are_items(batch):
        return [NOT_A_BATCH]
    return [1 if oracle.fails(batch) else 0]


def call_why(oracle, reader):
    batch = reader.row()
    if not oracle.are_items(batch):
        return [NOT_A_BATCH]
    return counted(oracle.met_rules(batch))


def call_first(oracle, reader):
    batch = reader.row()
    if not oracle.are_items(batch):
        return [NOT_A_BATCH]
    # A cure may mend a longer beginning, so halving could miss the shortest that fails.
    for length in range(len(batch) + 1):
        if oracle.fails(batch[:length]):
            return [1, length]
    return [0]


# A call's number is its place here.
CALLS = (
    call_items,
    call_rule,
    call_lift,
    call_rules,
    call_fails,
    call_why,
    call_first,
)


def answers(calls):
    """The answers to all calls of a new line, each with how many numbers it has ahead of it."""
    oracle = Oracle()
    reader = Reader(calls)
    told = []
    while not reader.is_done():
        call = CALLS[reader.whole()]
        told.extend(counted(call(oracle, reader)))
    return told

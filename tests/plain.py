"""What the tests share: sample queues, wrong values and a plain simulation.

The simulation follows the words of the document and imports nothing from the package.
"""

import itertools
import random

LINE = (3, 5, 2, 4)
CALM = (3, 2, 4, 5)
FAR = 10 ** 30

# The steps, the queue and the mover of the table in the document; the number is None if not settled.
TABLE = [
    (0, (3, 5, 2, 4), 3, None),
    (1, (5, 3, 2, 4), 5, None),
    (2, (3, 2, 4, 5), 3, 6),
    (3, (2, 4, 3, 5), 2, 5),
    (4, (4, 2, 3, 5), 4, 4),
    (5, (2, 3, 5, 4), 2, 3),
    (6, (3, 2, 5, 4), 3, 2),
    (7, (2, 5, 3, 4), 2, 1),
    (8, (5, 2, 3, 4), 5, 0),
    (9, (2, 3, 4, 5), 2, 7),
]

ODD_VALUES = [
    True, False, None, "", "3", "3 5 2 4", b"3", [], [3], [3, 5, 2, 4], {}, {3: 5}, {3, 5}, frozenset({3}),
    range(3), object(), int, len, (), ((),), ([3],), ({},), ([], []), ("3",), (None,), (b"3", 3),
    (True,), (False,), (True, 0), (1, True), (2, False), (3, 5, True), (3, 5, None), ((3, 5),), ((3, 5), 2),
    [[3]] * 3,
]


def wrong_queues():
    """Values that are no queues."""
    return ODD_VALUES + [
        0, 3, -1, FAR, (3, 3), (3, 5, 3), (5, 2, 4, 4), (0, 0), tuple(range(41)), tuple(range(60)),
        (FAR + 1,), (-FAR - 1,), (3, FAR + 1, 2), (3, 5, -FAR - 1), (1, 2, "2"), (10 ** 36, 1),
        tuple([1, 2] * 20), tuple(range(40)) + (39,), (3, 5, 2, [4]), (3, 5, 2, {4}), (3, 5, 2, (4,)),
    ]


def wrong_integers(least, most):
    """Values that are no integers from least to most."""
    beyond = [least - 1, most + 1, -10 ** 36, 10 ** 36]
    return ODD_VALUES + [(least,), [least], str(least), (most,)] + beyond


def wrong_persons(queue):
    """Values that are no persons of the queue."""
    absent = [max(queue) + 1, min(queue) - 1, FAR + 1, -FAR - 1, 10 ** 36, queue, list(queue)]
    return ODD_VALUES + absent + [(queue[0],), [queue[0]], str(queue[0])]


def wrong_rows(right):
    """Values that are no lists of these integers."""
    items = ODD_VALUES + [max(right) + 1, min(right) - 1, FAR + 1, 10 ** 36, -10 ** 36, list(right)]
    spoilt = [row for item in items for row in ([item], [item, *right], [*right, item])]
    return [value for value in ODD_VALUES if not isinstance(value, list)] + [tuple(right), right[0]] + spoilt


def plain_host(queue, gap=1):
    for other in queue[1:]:
        if other >= queue[0] + gap:
            return other
    return None


def plain_step(queue, gap=1):
    rest = list(queue)
    first = rest.pop(0)
    behind = plain_host(queue, gap)
    if behind is None:
        rest.append(first)
    else:
        rest.insert(rest.index(behind) + 1, first)
    return tuple(rest)


def plain_history(queue, steps, gap=1):
    """The queues after 0, 1, .., steps steps."""
    history = [tuple(queue)]
    for _ in range(steps):
        history.append(plain_step(history[-1], gap))
    return history


def plain_movers(queue, steps, gap=1):
    return [present[0] for present in plain_history(queue, steps, gap)[:steps]]


def plain_ahead(queue, person):
    ahead = []
    for other in queue:
        if other == person:
            return ahead
        if other > person:
            ahead.append(other)
    raise AssertionError("the person is not there")


def plain_unsettled(queue):
    return sorted(person for person in queue if len(plain_ahead(queue, person)) >= 2)


def plain_settling_time(queue):
    steps = 0
    while plain_unsettled(queue):
        queue = plain_step(queue)
        steps += 1
    return steps


def plain_number(queue):
    total = 0
    for person in queue:
        if person != max(queue) and not plain_ahead(queue, person):
            total += 2 ** sum(1 for other in queue if other < person)
    return total


def all_queues(most):
    """All orders of the persons 1 to n, for each n up to most."""
    return [queue for size in range(1, most + 1) for queue in itertools.permutations(range(1, size + 1))]


def some_queues(many, seed, least=1, most=40, height=60):
    """Random queues of all sizes from least to most; the same ones at each call."""
    dice = random.Random(seed)
    sizes = [least + at % (most - least + 1) for at in range(many)]
    return [tuple(dice.sample(range(-height, height + 1), size)) for size in sizes]


def high_queues(many, seed):
    """Random queues of 1 to 40 persons with heights up to the limit, which both ends reach."""
    dice = random.Random(seed)
    found = []
    for at in range(many):
        heights = [FAR, -FAR] + [dice.randint(-FAR + 1, FAR - 1) for _ in range(38)]
        heights = heights[:at % 40 + 1]
        dice.shuffle(heights)
        found.append(tuple(heights))
    return found


def slowest(size):
    """All persons ascending, but the shortest one at the end."""
    return tuple(range(2, size + 1)) + (1,)


def plain_settled(size, dice):
    """A settled queue of the persons 1 to size, made by hand from the tallest on."""
    line = []
    for person in range(size, 0, -1):
        line.insert(dice.randint(0, 1), person)
    return tuple(line)


def plain_settled_queue(persons, number):
    """The settled queue with this number: whose bit is set has no taller person ahead, the others have one."""
    line = []
    for shorter, person in reversed(list(enumerate(sorted(persons)))):
        line.insert(0 if not line or number & 2 ** shorter else 1, person)
    return tuple(line)


def some_settled(many, seed, most=40):
    dice = random.Random(seed)
    return [plain_settled(at % most + 1, dice) for at in range(many)]


def plain_phase(queue):
    """The phase by its words: what the number is, when the queue is settled, with the steps added again."""
    steps = plain_settling_time(queue)
    return (plain_number(plain_history(queue, steps)[-1]) + steps) % 2 ** (len(queue) - 1)


def plain_phases(size):
    """The phase of each queue of the persons 1 to size: a settled one's number, else one more than the next queue's."""
    ring = 2 ** (size - 1)
    phases = {}
    for queue in itertools.permutations(range(1, size + 1)):
        path = []
        while queue not in phases and plain_unsettled(queue):
            path.append(queue)
            queue = plain_step(queue)
        known = phases.setdefault(queue, plain_number(queue))
        for earlier in reversed(path):
            known = (known + 1) % ring
            phases[earlier] = known
    return phases


def plain_sources(size):
    """For each queue of the persons 1 to size, those from which one step leads to it."""
    queues = list(itertools.permutations(range(1, size + 1)))
    sources = {queue: [] for queue in queues}
    for queue in queues:
        sources[plain_step(queue)].append(queue)
    return sources


def plain_far(queue, steps):
    """The queue after many steps, by the ring of its settled queues."""
    ring = 2 ** (len(queue) - 1)
    return plain_history(queue, steps if steps <= ring else ring + steps % ring)[-1]


def plain_respected(queue, person, gap):
    return sorted(other for other in queue if other >= person + gap)


def plain_weights(queue, gap):
    """The weight of each person, from the tallest one on, because a weight needs those of taller ones only."""
    weights = {}
    for person in sorted(queue, reverse=True):
        tall = plain_respected(queue, person, gap)
        weights[person] = sum(weights[other] for other in tall) if tall else 1
    return weights


def plain_cycle(queue, gap=1):
    history = [queue]
    while True:
        queue = plain_step(queue, gap)
        if queue in history:
            start = history.index(queue)
            return start, len(history) - start
        history.append(queue)


def plain_before(queue):
    """All queues from which one step leads to the queue, found by trying each person at the front."""
    moved = [(person,) + tuple(other for other in queue if other != person) for person in queue]
    return sorted(before for before in moved if plain_step(before) == queue)


def queues_back(queue, steps, dice):
    """Some queues that lead to the queue after this number of steps, unsettled ones where there are any."""
    found = [queue]
    for _ in range(steps):
        earlier = [before for later in found for before in plain_before(later)]
        dice.shuffle(earlier)
        found = sorted(earlier, key=lambda before: not plain_unsettled(before))[:6]
    return found


def plain_waits(queue):
    """e(m) of each person, as the document writes it down; each one is worked out once, from the tallest on."""
    waits = {}
    for person in sorted(queue, reverse=True):
        many = {}
        for taller in sorted(plain_ahead(queue, person), reverse=True):
            many[taller] = 1 + sum(many.values()) - waits[taller]
        waits[person] = sum(many.values())
    return waits

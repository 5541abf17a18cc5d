"""Section 9: the queues before a queue."""

import itertools
import math
import random
import unittest

from tallerfirst.backwards import count_before, counts_by_before, has_queue_before, queues_before, settled_before
from tallerfirst.errors import NoNumber, NoSteps, NotSettled, TooMany
from tests import plain
from tests.plain import CALM, FAR, LINE


class QueuesBeforeTest(unittest.TestCase):
    def test_example(self):
        self.assertEqual(queues_before(CALM), [(2, 3, 4, 5), (5, 3, 2, 4)])

    def test_all_short_queues(self):
        for size in range(1, 8):
            for queue, sources in plain.plain_sources(size).items():
                self.assertEqual(queues_before(queue), sorted(sources))

    def test_long_queues(self):
        later = [plain.plain_step(queue) for queue in plain.some_queues(80, 90) + plain.high_queues(40, 91)]
        for queue in later + plain.some_queues(80, 92) + plain.high_queues(40, 93) + plain.some_settled(80, 94):
            self.assertEqual(queues_before(queue), plain.plain_before(queue))

    def test_edges(self):
        self.assertEqual([queues_before((7,)), queues_before((1, 2)), queues_before((2, 1))],
                         [[(7,)], [(2, 1)], [(1, 2)]])
        self.assertEqual(queues_before((-FAR, FAR)), [(FAR, -FAR)])
        self.assertEqual(queues_before((FAR, -FAR)), [(-FAR, FAR)])
        line = tuple(range(40))
        self.assertEqual(queues_before(line), [(39,) + line[:39]])
        self.assertEqual(queues_before(line[::-1]), [(38, 39) + line[37::-1]])

    def test_ascending(self):
        queue = (2, 1, 4, 3, 6, 5, 8, 7, 9)
        fronts = [before[0] for before in queues_before(queue)]
        self.assertEqual(fronts, [1, 3, 5, 7, 9])

    def test_none(self):
        for queue in (LINE, (3, 4, 2), (1, 3, 0), (38, 39) + tuple(range(38))):
            self.assertEqual(queues_before(queue), [])

    def test_list_is_new(self):
        queues_before(CALM).clear()
        queues_before(LINE).append(CALM)
        self.assertEqual([len(queues_before(CALM)), len(queues_before(LINE))], [2, 0])


class HasQueueBeforeTest(unittest.TestCase):
    def test_example(self):
        self.assertIs(has_queue_before(LINE), False)
        self.assertIs(has_queue_before(CALM), True)

    def test_all_short_queues(self):
        for size in range(1, 7):
            for queue, sources in plain.plain_sources(size).items():
                self.assertIs(has_queue_before(queue), bool(sources))

    def test_long_queues(self):
        for queue in plain.some_queues(80, 95) + plain.high_queues(40, 96):
            self.assertIs(has_queue_before(queue), bool(plain.plain_before(queue)))
            self.assertIs(has_queue_before(plain.plain_step(queue)), True)

    def test_edges(self):
        for queue in ((7,), (1, 2), (2, 1), (FAR, -FAR), tuple(range(40)), tuple(range(40, 0, -1))):
            self.assertIs(has_queue_before(queue), True)
        self.assertIs(has_queue_before((39, 0) + tuple(range(38, 0, -1))), True)
        self.assertIs(has_queue_before((38, 39) + tuple(range(38))), False)


class SettledBeforeTest(unittest.TestCase):
    def test_example(self):
        self.assertEqual(settled_before(CALM, 9), (2, 3, 4, 5))

    def test_leads_to_the_queue(self):
        for queue in plain.some_settled(120, 97):
            for steps in (0, 1, 2, 17, 60):
                before = settled_before(queue, steps)
                self.assertIsInstance(before, tuple)
                self.assertEqual(plain.plain_unsettled(before), [])
                self.assertEqual(plain.plain_history(before, steps)[-1], queue)

    def test_only_one(self):
        for size in range(1, 6):
            calm = [queue for queue in itertools.permutations(range(size)) if not plain.plain_unsettled(queue)]
            for steps in range(9):
                later = {plain.plain_history(queue, steps)[-1]: queue for queue in calm}
                self.assertEqual({queue: settled_before(queue, steps) for queue in calm}, later)

    def test_far_back(self):
        dice = random.Random(98)
        for queue in plain.some_settled(80, 99):
            ring = 2 ** (len(queue) - 1)
            for steps in (FAR, FAR - 1, dice.randint(0, FAR), dice.randint(0, 2 ** 39)):
                before = settled_before(queue, steps)
                self.assertEqual(sorted(before), sorted(queue))
                self.assertEqual(plain.plain_unsettled(before), [])
                self.assertEqual(plain.plain_number(before), (plain.plain_number(queue) + steps) % ring)

    def test_edges(self):
        self.assertEqual([settled_before((7,), steps) for steps in (0, 1, FAR)], [(7,)] * 3)
        self.assertEqual(settled_before((-FAR, FAR), FAR), (-FAR, FAR))
        self.assertEqual(settled_before((-FAR, FAR), FAR - 1), (FAR, -FAR))

    def test_errors_in_order(self):
        for steps in (-1, FAR + 1, True, None, "1"):
            for queue in (LINE, CALM):
                with self.assertRaises(NoSteps):
                    settled_before(queue, steps)
        for steps in (0, 1, FAR):
            for queue in (LINE, (3, 2, 1), plain.slowest(40)):
                with self.assertRaises(NotSettled):
                    settled_before(queue, steps)


class CountBeforeTest(unittest.TestCase):
    def test_example(self):
        self.assertEqual([count_before(CALM, steps) for steps in range(3)], [1, 2, 2])

    def test_no_steps(self):
        for queue in plain.all_queues(5):
            self.assertEqual(count_before(queue, 0), 1)

    def test_all_queues(self):
        for size in range(1, 6):
            self.check_counts(size, range(61), 1)

    def test_six_and_seven_persons(self):
        self.check_counts(6, [1, 2, 3, 7, 29, 30, 31, 60], 7)
        self.check_counts(7, [1, 2, 5, 18, 59, 60], 101)

    def check_counts(self, size, asked, every):
        sources = plain.plain_sources(size)
        counts = {queue: 1 for queue in sources}
        for steps in range(61):
            if steps in asked:
                some = list(sources)[::every] + [queue for queue in list(sources)[::every // 2 + 1] if counts[queue]]
                self.assertEqual([count_before(queue, steps) for queue in some], [counts[queue] for queue in some])
            counts = {queue: sum(counts[before] for before in sources[queue]) for queue in sources}

    def test_heights_do_not_matter(self):
        for steps in (0, 1, 2, 30, 60):
            self.assertEqual(count_before((3, -FAR, FAR - 1, FAR), steps), count_before(CALM, steps))

    def test_edges(self):
        self.assertEqual([count_before((7,), steps) for steps in (0, 1, 60)], [1, 1, 1])
        self.assertEqual([count_before((1, 2), steps) for steps in (0, 1, 60)], [1, 1, 1])
        self.assertEqual([count_before(LINE, steps) for steps in (0, 1, 60)], [1, 0, 0])
        for steps in (-1, 61, 10 ** 36, True, None, "1"):
            for queue in (LINE, tuple(range(7)), tuple(range(8)), tuple(range(40))):
                with self.assertRaises(NoSteps):
                    count_before(queue, steps)

    def test_too_many_persons(self):
        for size in (8, 9, 40):
            for steps in (0, 60):
                with self.assertRaises(TooMany) as caught:
                    count_before(tuple(range(size)), steps)
                self.assertEqual(caught.exception.persons, size)


class CountsByBeforeTest(unittest.TestCase):
    def test_example(self):
        self.assertEqual(counts_by_before(3), [1, 4, 1])

    def test_against_all_queues(self):
        for size in range(1, 8):
            many = [len(sources) for sources in plain.plain_sources(size).values()]
            self.assertEqual(counts_by_before(size), [many.count(index) for index in range(max(many) + 1)])

    def test_edges(self):
        self.assertEqual([counts_by_before(1), counts_by_before(2)], [[0, 1], [0, 2]])

    def test_all_sizes(self):
        for size in range(1, 41):
            counts = counts_by_before(size)
            self.assertTrue(counts[-1] > 0)
            # Each queue has one queue one step after it, so there are as many pairs as queues.
            self.assertEqual(sum(counts), math.factorial(size))
            self.assertEqual(sum(index * many for index, many in enumerate(counts)), math.factorial(size))
            # At most every second person can have moved last: (2, 1, 4, 3, .., size) is such a queue.
            self.assertEqual(len(counts), (size + 1) // 2 + 1)

    def test_long_queues_against_samples(self):
        dice = random.Random(100)
        for size in (8, 15, 40):
            orders = [tuple(dice.sample(range(size), size)) for _ in range(2000)]
            many = [len(plain.plain_before(queue)) for queue in orders]
            for index, count in enumerate(counts_by_before(size)):
                self.assertAlmostEqual(many.count(index) / len(many), count / math.factorial(size), delta=0.05)

    def test_wrong_sizes(self):
        for size in (0, -1, 41, 10 ** 36, True, False, None, "3", (3,), [3]):
            with self.assertRaises(NoNumber):
                counts_by_before(size)

    def test_list_is_new(self):
        counts_by_before(3).clear()
        self.assertEqual(counts_by_before(3), [1, 4, 1])


if __name__ == "__main__":
    unittest.main()

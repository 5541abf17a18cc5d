"""Section 8 and points [2] (c) and [8]: phases."""

import itertools
import random
import unittest

from tallerfirst.errors import NoNumber, NoQueue, NotAlike, TooMany
from tallerfirst.phases import meet, phase, queues_with_phase
from tests import plain
from tests.plain import CALM, FAR, LINE, TABLE


class PhaseTest(unittest.TestCase):
    def test_example(self):
        self.assertEqual([phase(LINE), phase(CALM)], [0, 6])

    def test_table(self):
        for steps, queue, _, _ in TABLE:
            self.assertEqual(phase(queue), -steps % 8)

    def test_edges(self):
        self.assertEqual([phase((7,)), phase((1, 2)), phase((2, 1))], [0, 1, 0])
        self.assertEqual([phase((-FAR, FAR)), phase((FAR, -FAR))], [1, 0])
        self.assertEqual(phase(tuple(range(40))), 2 ** 39 - 1)
        self.assertEqual(phase((39,) + tuple(range(39))), 0)

    def test_against_words(self):
        for size in range(1, 8):
            for queue, right in plain.plain_phases(size).items():
                self.assertEqual(phase(queue), right)
        for queue in plain.some_queues(20, 70, 6, 10):
            self.assertEqual(phase(queue), plain.plain_phase(queue))

    def test_settled_queues_have_their_number(self):
        for queue in plain.some_settled(120, 71):
            self.assertEqual(phase(queue), plain.plain_number(queue))

    def test_each_step_lowers_the_phase_by_one(self):
        for queue in plain.some_queues(80, 72) + plain.high_queues(40, 73):
            ring = 2 ** (len(queue) - 1)
            for steps, later in enumerate(plain.plain_history(queue, 20)):
                self.assertEqual(phase(later), (phase(queue) - steps) % ring)

    def test_slowest_queue(self):
        for size in (3, 5, 8, 11):
            self.assertEqual(phase(plain.slowest(size)), plain.plain_phase(plain.slowest(size)))


class MeetTest(unittest.TestCase):
    def test_example(self):
        self.assertEqual([meet(LINE, (5, 2, 3, 4)), meet(LINE, (4, 2, 3, 5))], [2, None])

    def test_equal_queues(self):
        for queue in plain.all_queues(4) + plain.some_queues(40, 74) + plain.high_queues(40, 75):
            self.assertEqual(meet(queue, queue), 0)

    def test_all_pairs(self):
        for size in range(1, 6):
            ring = 2 ** (size - 1)
            histories = {queue: plain.plain_history(queue, ring) for queue in itertools.permutations(range(size))}
            for one, other in itertools.product(histories, repeat=2):
                equal = [at for at, (a, b) in enumerate(zip(histories[one], histories[other])) if a == b]
                self.assertEqual(meet(one, other), min(equal, default=None))

    def test_some_pairs(self):
        for size in (6, 7):
            by_phase = {}
            for queue, number in plain.plain_phases(size).items():
                by_phase.setdefault(number, []).append(queue)
            for number in range(0, 2 ** (size - 1), 5):
                self.check_pairs(random.Random(76).sample(by_phase[number], min(12, len(by_phase[number]))))

    def check_pairs(self, queues):
        histories = {queue: plain.plain_history(queue, 2 ** (len(queue) - 1)) for queue in queues}
        for one, other in itertools.combinations(queues, 2):
            equal = [at for at, (a, b) in enumerate(zip(histories[one], histories[other])) if a == b]
            self.assertEqual(meet(one, other), equal[0])

    def test_long_queues_that_meet(self):
        dice = random.Random(77)
        met = []
        for queue in plain.some_settled(20, 78) + plain.some_queues(20, 79, 20, 40):
            for one, other in itertools.combinations(plain.queues_back(queue, 12, dice), 2):
                histories = zip(plain.plain_history(one, 12), plain.plain_history(other, 12))
                met.append(meet(one, other))
                self.assertEqual(met[-1], [a == b for a, b in histories].index(True))
        self.assertGreater(len(met), 40)
        self.assertGreater(len(set(met)), 5)

    def test_long_queue_and_its_settled_companion(self):
        # The settled queue of the same phase is met when the other one is settled.
        for size in (3, 8, 40):
            slow = plain.slowest(size)
            calm = plain.plain_settled_queue(range(1, size + 1), phase(slow))
            self.assertEqual(meet(slow, calm), 2 ** (size - 1) - 2)
            self.assertEqual(meet(calm, slow), 2 ** (size - 1) - 2)

    def test_never(self):
        self.assertIsNone(meet((1, 2), (2, 1)))
        for queue in plain.some_queues(40, 80, 8, 40) + plain.high_queues(40, 81)[8:]:
            for later in plain.plain_history(queue, 20)[1:]:
                self.assertIsNone(meet(queue, later))

    def test_errors_in_order(self):
        apart = (3, 2, 4, 6)
        for queue, other, error in [
            ([3, 2], CALM, NoQueue), (CALM, [3, 2], NoQueue), (LINE, (1, 1), NoQueue), ((2, 2), apart, NoQueue),
            (CALM, apart, NotAlike), (apart, LINE, NotAlike), (CALM, (3, 2, 4), NotAlike), ((3, 2, 4), CALM, NotAlike),
            (CALM, (3, 2, 4, 5, 6), NotAlike),
        ]:
            with self.subTest(repr((queue, other))):
                with self.assertRaises(error):
                    meet(queue, other)


class QueuesWithPhaseTest(unittest.TestCase):
    def test_example(self):
        self.assertEqual(queues_with_phase((3, 1, 2), 3), [(1, 2, 3), (3, 2, 1)])

    def test_all_phases(self):
        for size in range(1, 8):
            by_phase = {}
            for queue, number in sorted(plain.plain_phases(size).items()):
                by_phase.setdefault(number, []).append(queue)
            self.assertEqual(sorted(by_phase), list(range(2 ** (size - 1))))
            for number, queues in by_phase.items():
                self.assertEqual(queues_with_phase(tuple(range(1, size + 1)), number), queues)

    def test_order_does_not_matter(self):
        for persons in itertools.permutations((3, -FAR, 2, FAR)):
            self.assertEqual(queues_with_phase(persons, 6), queues_with_phase((-FAR, 2, 3, FAR), 6))
        self.assertEqual(queues_with_phase((FAR, -FAR), 1), [(-FAR, FAR)])

    def test_edges(self):
        self.assertEqual(queues_with_phase((7,), 0), [(7,)])
        for size in (1, 2, 4, 7, 8, 40):
            for number in (2 ** (size - 1), 2 ** size, -1, 10 ** 36, True, None, "0"):
                with self.assertRaises(NoNumber):
                    queues_with_phase(tuple(range(size)), number)

    def test_too_many_persons(self):
        for size in (8, 9, 40):
            for number in (0, 2 ** (size - 1) - 1):
                with self.assertRaises(TooMany) as caught:
                    queues_with_phase(tuple(range(size)), number)
                self.assertEqual(caught.exception.persons, size)

    def test_list_is_new(self):
        queues_with_phase((3, 1, 2), 3).clear()
        queues_with_phase((7,), 0).clear()
        self.assertEqual(queues_with_phase((3, 1, 2), 3), [(1, 2, 3), (3, 2, 1)])
        self.assertEqual(queues_with_phase((7,), 0), [(7,)])


if __name__ == "__main__":
    unittest.main()

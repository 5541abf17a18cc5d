"""Section 5 and points [2] (a), (b) and [7]: settled queues."""

import itertools
import random
import unittest

from tallerfirst.errors import NoNumber, NoQueue, NotAlike, NotSettled
from tallerfirst.queues import run, step
from tallerfirst.settled import is_settled, number_of, settled_queue, steps_between, unsettled
from tests import plain
from tests.plain import CALM, FAR, LINE, TABLE


class IsSettledTest(unittest.TestCase):
    def test_example(self):
        self.assertIs(is_settled(LINE), False)
        self.assertIs(is_settled(CALM), True)

    def test_table(self):
        for _, queue, _, number in TABLE:
            self.assertIs(is_settled(queue), number is not None)

    def test_edges(self):
        for queue in ((7,), (1, 2), (2, 1), tuple(range(40)), (FAR, -FAR)):
            self.assertIs(is_settled(queue), True)
        self.assertIs(is_settled((3, 2, 1)), False)
        self.assertIs(is_settled(plain.slowest(40)), False)

    def test_against_words(self):
        for queue in plain.all_queues(6) + plain.some_queues(80, 20) + plain.some_settled(80, 21):
            self.assertIs(is_settled(queue), not plain.plain_unsettled(queue))

    def test_stays_settled(self):
        for queue in plain.all_queues(6):
            if is_settled(queue):
                self.assertIs(is_settled(step(queue)), True)

    def test_settles_in_time(self):
        for size in range(1, 8):
            limit = max(2 ** (size - 1) - 2, 0)
            for queue in itertools.permutations(range(1, size + 1)):
                self.assertIs(is_settled(run(queue, limit)), True)

    def test_one_queue_takes_longest(self):
        for size in range(3, 8):
            before = 2 ** (size - 1) - 3
            slow = [queue for queue in itertools.permutations(range(1, size + 1)) if not is_settled(run(queue, before))]
            self.assertEqual(slow, [plain.slowest(size)])


class UnsettledTest(unittest.TestCase):
    def test_example(self):
        self.assertEqual(unsettled(LINE), [2])

    def test_ascending(self):
        self.assertEqual(unsettled((9, 8, 7, 5, 6)), [5, 6, 7])
        self.assertEqual(unsettled((9, 8, 5, 7, 6)), [5, 6, 7])
        self.assertEqual(unsettled((9, 8, -1, -3, -2)), [-3, -2, -1])
        self.assertEqual(unsettled((40, 30, 20, 10)), [10, 20])

    def test_none(self):
        for queue in ((7,), CALM, (1, 2, 3)):
            self.assertEqual(unsettled(queue), [])

    def test_against_words(self):
        for queue in plain.all_queues(6) + plain.some_queues(80, 22) + plain.high_queues(40, 23):
            self.assertEqual(unsettled(queue), plain.plain_unsettled(queue))

    def test_list_is_new(self):
        unsettled(LINE).append(9)
        unsettled(CALM).append(9)
        self.assertEqual([unsettled(LINE), unsettled(CALM)], [[2], []])


class NumberOfTest(unittest.TestCase):
    def test_example(self):
        self.assertEqual(number_of(CALM), 6)

    def test_table(self):
        for _, queue, _, number in TABLE:
            if number is not None:
                self.assertEqual(number_of(queue), number)

    def test_edges(self):
        self.assertEqual([number_of((7,)), number_of((1, 2)), number_of((2, 1))], [0, 1, 0])
        self.assertEqual(number_of(tuple(range(40))), 2 ** 39 - 1)
        self.assertEqual(number_of((39,) + tuple(range(39))), 0)
        self.assertEqual(number_of((-FAR, FAR)), 1)

    def test_only_the_order_of_heights_counts(self):
        self.assertEqual(number_of((30, -20, 400, 500000)), 6)

    def test_against_words(self):
        for queue in plain.some_settled(120, 24):
            self.assertEqual(number_of(queue), plain.plain_number(queue))

    def test_each_number_belongs_to_one_queue(self):
        for size in range(1, 8):
            settled = [queue for queue in itertools.permutations(range(1, size + 1)) if is_settled(queue)]
            self.assertEqual(sorted(number_of(queue) for queue in settled), list(range(2 ** (size - 1))))

    def test_each_step_lowers_the_number_by_one(self):
        queues = [queue for queue in plain.all_queues(7) if is_settled(queue)] + plain.some_settled(120, 25)
        for queue in queues:
            ring = 2 ** (len(queue) - 1)
            self.assertEqual(number_of(step(queue)), (number_of(queue) - 1) % ring)

    def test_not_settled(self):
        for queue in (LINE, (5, 3, 2, 4), (3, 2, 1), plain.slowest(40)):
            with self.assertRaises(NotSettled):
                number_of(queue)


class SettledQueueTest(unittest.TestCase):
    def test_example(self):
        self.assertEqual(settled_queue(LINE, 0), (5, 2, 3, 4))

    def test_table(self):
        for _, queue, _, number in TABLE:
            if number is not None:
                self.assertEqual(settled_queue(LINE, number), queue)

    def test_all_numbers(self):
        for size in range(1, 8):
            persons = tuple(range(10, 10 + size))
            for number in range(2 ** (size - 1)):
                queue = settled_queue(persons, number)
                self.assertIsInstance(queue, tuple)
                self.assertEqual(sorted(queue), sorted(persons))
                self.assertEqual(plain.plain_unsettled(queue), [])
                self.assertEqual(plain.plain_number(queue), number)

    def test_order_does_not_matter(self):
        for persons in itertools.permutations((3, -5, 2, 40)):
            self.assertEqual([settled_queue(persons, number) for number in (0, 6, 7)],
                             [(40, -5, 2, 3), (2, -5, 3, 40), (-5, 2, 3, 40)])

    def test_forty_persons(self):
        dice = random.Random(26)
        for queue in plain.high_queues(80, 27):
            number = dice.randrange(2 ** (len(queue) - 1))
            found = settled_queue(queue, number)
            self.assertEqual(sorted(found), sorted(queue))
            self.assertEqual(plain.plain_number(found), number)
            self.assertEqual(plain.plain_unsettled(found), [])

    def test_edges(self):
        self.assertEqual(settled_queue((7,), 0), (7,))
        persons = tuple(range(40))
        self.assertEqual(settled_queue(persons, 2 ** 39 - 1), persons)
        self.assertEqual(settled_queue(persons, 0), (39,) + persons[:39])
        for size in (1, 2, 4, 7, 40):
            for number in (2 ** (size - 1), 2 ** (size - 1) + 1, 2 ** size, -1, -2 ** (size - 1), 10 ** 36):
                with self.assertRaises(NoNumber):
                    settled_queue(persons[:size], number)


class StepsBetweenTest(unittest.TestCase):
    def test_example(self):
        self.assertEqual([steps_between(CALM, (5, 2, 3, 4)), steps_between((5, 2, 3, 4), CALM)], [6, 2])

    def test_table(self):
        for one, queue, _, _ in TABLE[2:]:
            for two, other, _, _ in TABLE[2:]:
                self.assertEqual(steps_between(queue, other), (two - one) % 8)

    def test_equal_queues(self):
        for queue in ((7,), (1, 2), CALM, tuple(range(40))):
            self.assertEqual(steps_between(queue, queue), 0)

    def test_least_number_of_steps(self):
        for size in range(1, 6):
            settled = [queue for queue in itertools.permutations(range(size)) if not plain.plain_unsettled(queue)]
            for queue in settled:
                history = plain.plain_history(queue, 2 ** size)
                for other in settled:
                    self.assertEqual(steps_between(queue, other), history.index(other))

    def test_forty_persons(self):
        persons = tuple(range(40))
        last = (39,) + persons[:39]
        self.assertEqual(steps_between(persons, last), 2 ** 39 - 1)
        self.assertEqual(steps_between(last, persons), 1)
        dice = random.Random(28)
        for _ in range(20):
            queue = plain.plain_settled(40, dice)
            self.assertEqual(steps_between(queue, plain.plain_history(queue, 50)[-1]), 50)

    def test_errors_in_order(self):
        apart = (3, 2, 4, 6)
        for queue, other, error in [
            ([3, 2], CALM, NoQueue), (CALM, [3, 2], NoQueue), (LINE, (1, 1), NoQueue), ((2, 2), LINE, NoQueue),
            (CALM, apart, NotAlike), (apart, CALM, NotAlike), (LINE, apart, NotAlike), (apart, LINE, NotAlike),
            (CALM, (3, 2, 4), NotAlike), ((3, 2, 4), CALM, NotAlike), (LINE, (5, 3, 2), NotAlike),
            (CALM, (3, 2, 4, 5, 6), NotAlike),
            (LINE, CALM, NotSettled), (CALM, LINE, NotSettled), (LINE, LINE, NotSettled),
        ]:
            with self.subTest(repr((queue, other))):
                with self.assertRaises(error):
                    steps_between(queue, other)


if __name__ == "__main__":
    unittest.main()

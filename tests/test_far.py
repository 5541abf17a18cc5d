"""Section 7: queues and steps that are far away."""

import random
import unittest

from tallerfirst.errors import NoPerson, NoSteps
from tallerfirst.far import mover_at, place_after, queue_after
from tests import plain
from tests.plain import FAR, LINE, TABLE


class QueueAfterTest(unittest.TestCase):
    def test_example(self):
        self.assertEqual(queue_after(LINE, 10 ** 9), (5, 2, 3, 4))

    def test_table(self):
        for steps, queue, _, _ in TABLE:
            self.assertEqual(queue_after(LINE, steps), queue)

    def test_no_steps(self):
        for queue in plain.all_queues(5) + plain.some_queues(80, 50) + plain.high_queues(40, 51):
            self.assertEqual(queue_after(queue, 0), queue)

    def test_one_and_two_persons(self):
        for steps in (0, 1, 2, 10 ** 9 + 1, FAR - 1, FAR):
            self.assertEqual(queue_after((7,), steps), (7,))
            self.assertEqual(queue_after((-FAR, FAR), steps), (FAR, -FAR) if steps % 2 else (-FAR, FAR))

    def test_against_simulation(self):
        for queue in plain.all_queues(5) + plain.some_queues(80, 52) + plain.high_queues(40, 53):
            for steps, later in enumerate(plain.plain_history(queue, 40)):
                found = queue_after(queue, steps)
                self.assertIsInstance(found, tuple)
                self.assertEqual(found, later)

    def test_many_steps_against_simulation(self):
        queues = [plain.slowest(12), plain.slowest(40), tuple(range(40)), tuple(range(40, 0, -1))]
        for queue in queues + plain.some_queues(10, 54, 20, 40):
            history = plain.plain_history(queue, 2000)
            for steps in (100, 777, 1024, 1999, 2000):
                self.assertEqual(queue_after(queue, steps), history[steps])

    def test_far_steps_against_the_ring(self):
        for queue in plain.all_queues(4) + plain.some_queues(20, 55, 1, 8):
            for steps in (10 ** 9, 10 ** 18 + 5, FAR - 1, FAR):
                self.assertEqual(queue_after(queue, steps), plain.plain_far(queue, steps))

    def test_settled_queues_against_their_numbers(self):
        dice = random.Random(56)
        for queue in plain.some_settled(80, 57):
            for steps in (1, dice.randint(0, 2 ** 39), dice.randint(0, FAR), FAR):
                later = queue_after(queue, steps)
                ring = 2 ** (len(queue) - 1)
                self.assertEqual(sorted(later), sorted(queue))
                self.assertEqual(plain.plain_unsettled(later), [])
                self.assertEqual(plain.plain_number(later), (plain.plain_number(queue) - steps) % ring)

    def test_far_steps_one_by_one(self):
        dice = random.Random(58)
        for queue in [plain.slowest(40)] + plain.some_queues(30, 59, 11, 40) + plain.high_queues(40, 60):
            for most in (10 ** 4, 2 ** 38, FAR - 20):
                steps = dice.randint(0, most)
                for after, later in enumerate(plain.plain_history(queue_after(queue, steps), 20)):
                    self.assertEqual(queue_after(queue, steps + after), later)

    def test_slowest_queue(self):
        for size in (3, 7, 40):
            limit = 2 ** (size - 1) - 2
            self.assertEqual(plain.plain_unsettled(queue_after(plain.slowest(size), limit - 1)), [1])
            self.assertEqual(plain.plain_unsettled(queue_after(plain.slowest(size), limit)), [])

    def test_range_of_steps(self):
        for steps in (-1, FAR + 1, True, False, None, "1", (1,)):
            with self.assertRaises(NoSteps):
                queue_after(LINE, steps)


class MoverAtTest(unittest.TestCase):
    def test_example(self):
        self.assertEqual(mover_at(LINE, 10 ** 9), 2)

    def test_table(self):
        for steps, _, mover, _ in TABLE:
            self.assertEqual(mover_at(LINE, steps + 1), mover)

    def test_one_and_two_persons(self):
        for step in (1, 2, 10 ** 9 + 1, FAR - 1, FAR):
            self.assertEqual(mover_at((7,), step), 7)
            self.assertEqual(mover_at((-FAR, FAR), step), -FAR if step % 2 else FAR)

    def test_tallest_and_shortest(self):
        persons = tuple(range(40))
        self.assertEqual([mover_at(persons, step) for step in (1, 2, 3, 2 ** 38, 2 ** 39, 2 ** 39 + 1)],
                         [0, 1, 0, 38, 39, 0])
        # The shortest person of the slowest queue waits until the tallest one has moved, and all others again.
        self.assertEqual([mover_at(plain.slowest(40), step) for step in (2 ** 38, 2 ** 39 - 1, 2 ** 39, 2 ** 39 + 1)],
                         [40, 2, 1, 40])

    def test_against_simulation(self):
        for queue in plain.all_queues(5) + plain.some_queues(80, 61) + plain.high_queues(40, 62):
            row = plain.plain_movers(queue, 60)
            self.assertEqual([mover_at(queue, step) for step in range(1, 61)], row)

    def test_many_steps_against_simulation(self):
        for queue in [plain.slowest(12), plain.slowest(40)] + plain.some_queues(6, 63, 30, 40):
            row = plain.plain_movers(queue, 2000)
            self.assertEqual([mover_at(queue, step) for step in range(1, 2001)], row)

    def test_far_steps_against_the_ring(self):
        for queue in plain.all_queues(4) + plain.some_queues(20, 64, 1, 8):
            for step in (10 ** 9, 10 ** 18 + 5, FAR - 1, FAR):
                self.assertEqual(mover_at(queue, step), plain.plain_far(queue, step - 1)[0])

    def test_is_in_front_before(self):
        dice = random.Random(65)
        for queue in plain.high_queues(40, 66):
            for step in (FAR, dice.randint(1, FAR), dice.randint(1, 2 ** 39)):
                self.assertEqual(mover_at(queue, step), queue_after(queue, step - 1)[0])

    def test_range_of_steps(self):
        for step in (0, -1, FAR + 1, True, False, None, "1", (1,)):
            with self.assertRaises(NoSteps):
                mover_at(LINE, step)


class PlaceAfterTest(unittest.TestCase):
    def test_example(self):
        self.assertEqual(place_after(LINE, 4, 10 ** 9), 3)

    def test_table(self):
        for steps, queue, _, _ in TABLE:
            self.assertEqual([place_after(LINE, person, steps) for person in queue], [0, 1, 2, 3])

    def test_one_person(self):
        self.assertEqual([place_after((7,), 7, steps) for steps in (0, 1, FAR)], [0, 0, 0])

    def test_against_simulation(self):
        for queue in plain.all_queues(4) + plain.some_queues(40, 67) + plain.high_queues(40, 68):
            for steps, later in enumerate(plain.plain_history(queue, 12)):
                self.assertEqual([place_after(queue, person, steps) for person in later], list(range(len(queue))))

    def test_far_steps_against_the_ring(self):
        for queue in plain.some_queues(20, 69, 1, 8):
            for steps in (10 ** 9, FAR - 1, FAR):
                later = plain.plain_far(queue, steps)
                self.assertEqual([place_after(queue, person, steps) for person in later], list(range(len(queue))))

    def test_forty_settled_persons(self):
        persons = tuple(range(40))
        # After 2 ** 39 - 1 steps the number is 0: the tallest person is in front, the others are ascending.
        self.assertEqual([place_after(persons, person, 2 ** 39 - 1) for person in (39, 0, 38)], [0, 1, 39])
        self.assertEqual([place_after(persons, person, 2 ** 39) for person in (39, 0, 38)], [39, 0, 38])

    def test_errors_in_order(self):
        for person, steps, error in [
            (6, 1, NoPerson), (6, -1, NoPerson), (True, FAR + 1, NoPerson), ((3,), None, NoPerson),
            (3, -1, NoSteps), (3, FAR + 1, NoSteps), (3, True, NoSteps), (3, None, NoSteps),
        ]:
            with self.assertRaises(error):
                place_after(LINE, person, steps)
        for person in (True, False):
            with self.assertRaises(NoPerson):
                place_after((0, 1, 2), person, 3)


if __name__ == "__main__":
    unittest.main()

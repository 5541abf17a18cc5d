"""Queues of 40 persons, the longest ones: what is asked of them often, and how much is looked at for an answer."""

import random
import unittest

from tallerfirst.far import queue_after
from tallerfirst.queues import as_tall, host, is_queue, movers, run, step, taller_ahead
from tallerfirst.settled import is_settled, number_of, settled_queue, steps_between, unsettled
from tallerfirst.times import first_move, moves_before, moves_of, nth_move, settling_time
from tests import plain
from tests.plain import FAR

UP = tuple(range(1, 41))
DOWN = UP[::-1]
FRONT_TALL = tuple(range(31, 41)) + tuple(range(1, 31))


def orders(many, seed):
    """The heights 1 to 40 in some orders."""
    dice = random.Random(seed)
    return [UP, DOWN, FRONT_TALL, plain.slowest(40)] + [tuple(dice.sample(UP, 40)) for _ in range(many)]


def settled_orders(many, seed):
    dice = random.Random(seed)
    return [UP, (40,) + UP[:39]] + [plain.plain_settled(40, dice) for _ in range(many)]


class StepsTest(unittest.TestCase):
    def test_is_queue(self):
        for queue in orders(20, 130):
            self.assertIs(is_queue(queue), True)
            for wrong in (queue + (41,), queue[1:] + (queue[1],), queue[1:] + (True,), queue[1:] + (FAR + 1,)):
                self.assertIs(is_queue(wrong), False)

    def test_step_and_host(self):
        for queue in orders(20, 131):
            for gap in (1, 2, 20, 39, 40, 10 ** 31):
                self.assertEqual(step(queue, gap=gap), plain.plain_step(queue, gap))
                self.assertEqual(host(queue, gap=gap), plain.plain_host(queue, gap))

    def test_run_and_movers_where_nobody_is_tall_enough(self):
        for queue in orders(2, 132):
            for gap in (40, 10 ** 31):
                # Each person goes to the end in its turn, and 2,000 is 50 times 40.
                self.assertEqual(run(queue, 2000, gap=gap), queue)
                self.assertEqual(run(queue, 1999, gap=gap), queue[-1:] + queue[:-1])
                self.assertEqual(list(movers(queue, 2000, gap=gap)), list(queue) * 50)

    def test_run_and_movers(self):
        for queue in orders(2, 133):
            for gap in (1, 2, 20, 39, 10 ** 31):
                history = plain.plain_history(queue, 2000, gap)
                self.assertEqual(run(queue, 2000, gap=gap), history[2000])
                self.assertEqual(list(movers(queue, 2000, gap=gap)), [present[0] for present in history[:2000]])

    def test_run_of_each_length(self):
        # Some steps are taken one by one and many at once: both must agree where one ends and the other begins.
        for queue in orders(3, 134) + plain.some_queues(40, 135):
            history = plain.plain_history(queue, 430)
            for steps in (1, 9, 10, 11, 10 * len(queue) - 1, 10 * len(queue), 10 * len(queue) + 1, 430):
                self.assertEqual(run(queue, steps), history[steps])

    def test_as_tall_and_taller_ahead(self):
        for queue in orders(10, 136):
            for person in queue:
                self.assertEqual(as_tall(queue, person), tuple(other for other in queue if other >= person))
                self.assertEqual(taller_ahead(queue, person), plain.plain_ahead(queue, person))


class SettledTest(unittest.TestCase):
    def test_unsettled_and_is_settled(self):
        for queue in orders(20, 137) + settled_orders(20, 138):
            self.assertEqual(unsettled(queue), plain.plain_unsettled(queue))
            self.assertIs(is_settled(queue), not plain.plain_unsettled(queue))

    def test_one_person_unsettled(self):
        for queue in settled_orders(10, 139):
            for person in UP[:38]:
                tall = [other for other in queue if other > person]
                rest = [other for other in queue if other != person]
                # Directly behind the second taller one two taller ones are ahead.
                at = rest.index(tall[1]) + 1
                moved = tuple(rest[:at] + [person] + rest[at:])
                self.assertIn(person, unsettled(moved))
                self.assertEqual(unsettled(moved), plain.plain_unsettled(moved))

    def test_numbers(self):
        for queue in settled_orders(40, 140):
            number = plain.plain_number(queue)
            self.assertEqual(number_of(queue), number)
            self.assertEqual(settled_queue(UP, number), queue)

    def test_steps_between(self):
        dice = random.Random(141)
        for queue in settled_orders(10, 142):
            for steps in (0, 1, dice.randint(2, 100), 100):
                later = plain.plain_history(queue, steps)[-1]
                self.assertEqual(steps_between(queue, later), steps)
                self.assertEqual(steps_between(later, queue), -steps % 2 ** 39)


class TimesTest(unittest.TestCase):
    def test_settling_time(self):
        dice = random.Random(143)
        queues = [UP, DOWN, FRONT_TALL]
        for queue in settled_orders(10, 144):
            queues += plain.queues_back(queue, 25, dice)
        times = [settling_time(queue) for queue in queues]
        self.assertEqual(times, [plain.plain_settling_time(queue) for queue in queues])
        self.assertGreater(len(set(times)), 4)

    def test_far_settling_time(self):
        for queue in orders(20, 145):
            steps = settling_time(queue)
            self.assertEqual(plain.plain_unsettled(queue_after(queue, steps)), [])
            if steps:
                last = queue_after(queue, steps - 1)
                self.assertNotEqual(plain.plain_unsettled(last), [])
                self.assertEqual(plain.plain_step(last), queue_after(queue, steps))

    def test_moves_before(self):
        for queue in orders(20, 146) + settled_orders(10, 147):
            self.assertEqual({person: moves_before(queue, person) for person in UP}, plain.plain_waits(queue))

    def test_moves(self):
        for queue in orders(3, 148) + settled_orders(3, 149):
            row = plain.plain_movers(queue, 2000)
            for person in set(row):
                turns = [at + 1 for at, mover in enumerate(row) if mover == person]
                self.assertEqual(first_move(queue, person), turns[0])
                self.assertEqual([nth_move(queue, person, number) for number in range(0, len(turns), 7)], turns[::7])
            for steps in (0, 1, 40, 1000, 1999, 2000):
                self.assertEqual([moves_of(queue, person, steps) for person in UP],
                                 [row[:steps].count(person) for person in UP])


class Counted(int):
    """An integer that counts how often its kind is compared by order."""

    looks = 0

    def __lt__(self, other):
        Counted.looks += 1
        return int(self) < other

    def __le__(self, other):
        Counted.looks += 1
        return int(self) <= other

    def __gt__(self, other):
        Counted.looks += 1
        return int(self) > other

    def __ge__(self, other):
        Counted.looks += 1
        return int(self) >= other


def looks(call, queue):
    """How often persons are compared in a call, in which the queue's persons are counted ones."""
    counted = tuple(Counted(person) for person in queue)
    Counted.looks = 0
    result = call(counted)
    return Counted.looks, result


class LooksTest(unittest.TestCase):
    """A time would be another one on each machine; the number of comparisons is not."""

    # Who looks at all pairs of 40 persons needs at least half of these.
    PAIRS = 40 * 40

    def check(self, call, queue, most):
        many, result = looks(call, queue)
        self.assertLessEqual(many, most)
        self.assertEqual(result, call(queue))

    def test_steps_that_change_nothing_but_the_front(self):
        for queue in orders(2, 150):
            self.check(lambda line: run(line, 2000, gap=10 ** 31), queue, 2 * 2000)
            self.check(lambda line: list(movers(line, 2000, gap=10 ** 31)), queue, 2 * 2000)

    def test_checks(self):
        for queue in orders(2, 151):
            self.check(is_queue, queue, 300)
            self.check(lambda line: run(line, 0), queue, 400)
            self.check(lambda line: step(line), queue, 400)
            self.check(lambda line: as_tall(line, 20), queue, 400)
            self.check(lambda line: taller_ahead(line, 20), queue, 400)

    def test_one_walk_through_the_queue(self):
        for queue in settled_orders(4, 152):
            self.check(number_of, queue, self.PAIRS)
            self.check(lambda line: steps_between(line, queue), queue, self.PAIRS)
        for queue in orders(4, 153):
            self.check(is_settled, queue, self.PAIRS // 2)
            self.check(unsettled, queue, self.PAIRS // 2)


if __name__ == "__main__":
    unittest.main()

"""Section 4 and points [3] to [6]: queues and their steps."""

import inspect
import unittest

from tallerfirst.errors import NoGap, NoPerson, NoQueue, NoSteps
from tallerfirst.queues import as_tall, host, is_queue, movers, run, step, taller_ahead
from tests import plain
from tests.plain import FAR, LINE, TABLE

GAPS = [1, 2, 3, 7, 40, 121, 10 ** 31]


class IsQueueTest(unittest.TestCase):
    def test_example(self):
        self.assertIs(is_queue((2, 1)), True)
        self.assertIs(is_queue((2, 1, 2)), False)
        self.assertIs(is_queue([2, 1]), False)

    def test_queues(self):
        for queue in plain.all_queues(4) + plain.some_queues(80, 1) + plain.high_queues(40, 2):
            with self.subTest(queue):
                self.assertIs(is_queue(queue), True)

    def test_sizes(self):
        self.assertIs(is_queue(()), False)
        self.assertIs(is_queue((0,)), True)
        self.assertIs(is_queue(tuple(range(39))), True)
        self.assertIs(is_queue(tuple(range(40))), True)
        self.assertIs(is_queue(tuple(range(41))), False)
        self.assertIs(is_queue(tuple(range(200))), False)

    def test_heights(self):
        for height in (FAR, -FAR, FAR - 1, 0, -1):
            self.assertIs(is_queue((height,)), True)
            self.assertIs(is_queue((7, height, 8)), True)
        for height in (FAR + 1, -FAR - 1, 10 ** 36, -10 ** 36):
            self.assertIs(is_queue((height,)), False)
            self.assertIs(is_queue((7, 8, height)), False)

    def test_repeated_persons(self):
        for queue in ((1, 1), (1, 2, 1), (1, 2, 2), (5, 1, 2, 3, 5), (FAR, FAR), (-1, -1)):
            self.assertIs(is_queue(queue), False)
        self.assertIs(is_queue((-1, 1)), True)

    def test_wrong_values(self):
        for value in plain.wrong_queues():
            with self.subTest(repr(value)):
                self.assertIs(is_queue(value), False)

    def test_deep_values(self):
        as_tuple, as_list = (), []
        for _ in range(38):
            as_tuple, as_list = (as_tuple,), [as_list]
        self.assertIs(is_queue(as_tuple), False)
        self.assertIs(is_queue((1, as_tuple, as_tuple)), False)
        self.assertIs(is_queue((1, as_list)), False)


class HostTest(unittest.TestCase):
    def test_example(self):
        self.assertEqual([host(LINE), host((5, 3, 2, 4)), host(LINE, gap=3)], [5, None, None])

    def test_gap_is_at_least(self):
        self.assertEqual([host((1, 2, 3, 4), gap=gap) for gap in (1, 2, 3, 4)], [2, 3, 4, None])

    def test_host_is_the_first_one(self):
        self.assertEqual(host((3, 1, 5, 4)), 5)
        self.assertEqual(host((3, 2, 4, 5)), 4)
        self.assertEqual(host((0, -5, 0 + 1, 9)), 1)

    def test_host_may_be_falsy(self):
        self.assertEqual(host((-1, 0)), 0)
        self.assertIsNot(host((-1, 0)), None)

    def test_nobody(self):
        for queue in ((7,), (0,), (9, 1, 2), (FAR, -FAR)):
            self.assertIsNone(host(queue))

    def test_far_heights(self):
        self.assertEqual(host((-FAR, FAR), gap=2 * FAR), FAR)
        self.assertIsNone(host((-FAR, FAR), gap=2 * FAR + 1))
        self.assertIsNone(host((-FAR, FAR), gap=10 ** 31))

    def test_against_simulation(self):
        for queue in plain.all_queues(5) + plain.some_queues(80, 3) + plain.high_queues(40, 4):
            self.assertEqual(host(queue), plain.plain_host(queue))
            for gap in GAPS:
                self.assertEqual(host(queue, gap=gap), plain.plain_host(queue, gap))


class StepTest(unittest.TestCase):
    def test_example(self):
        self.assertEqual(step(LINE), (5, 3, 2, 4))

    def test_table(self):
        for (_, queue, _, _), (_, after, _, _) in zip(TABLE, TABLE[1:]):
            self.assertEqual(step(queue), after)

    def test_to_the_end(self):
        self.assertEqual(step((5, 3, 2, 4)), (3, 2, 4, 5))
        self.assertEqual(step(LINE, gap=3), (5, 2, 4, 3))
        self.assertEqual(step((7,)), (7,))
        self.assertEqual(step((7,), gap=10 ** 31), (7,))
        self.assertEqual(step((1, 2), gap=10 ** 31), (2, 1))

    def test_directly_behind_the_last(self):
        self.assertEqual(step((2, 1, 3)), (1, 3, 2))
        self.assertEqual(step((1, 2)), (2, 1))

    def test_against_simulation(self):
        for queue in plain.all_queues(5) + plain.some_queues(80, 5) + plain.high_queues(40, 6):
            self.assertEqual(step(queue), plain.plain_step(queue))
            for gap in GAPS:
                after = step(queue, gap=gap)
                self.assertEqual(after, plain.plain_step(queue, gap))
                self.assertIsInstance(after, tuple)


class RunTest(unittest.TestCase):
    def test_example(self):
        self.assertEqual(run(LINE, 4), (4, 2, 3, 5))

    def test_table(self):
        for steps, queue, _, _ in TABLE:
            self.assertEqual(run(LINE, steps), queue)

    def test_no_steps(self):
        self.assertEqual(run(LINE, 0), LINE)
        self.assertEqual(run(LINE, 0, gap=2), LINE)

    def test_most_steps(self):
        for queue in [(7,), LINE, plain.slowest(12), tuple(range(40))] + plain.some_queues(8, 7, 9, 40):
            for gap in (1, 2, 30):
                self.assertEqual(run(queue, 2000, gap=gap), plain.plain_history(queue, 2000, gap)[-1])

    def test_against_simulation(self):
        for queue in plain.all_queues(4) + plain.some_queues(80, 8):
            for gap in (1, 2, 5):
                history = plain.plain_history(queue, 17, gap)
                for steps in (0, 1, 2, 5, 17):
                    self.assertEqual(run(queue, steps, gap=gap), history[steps])
            self.assertEqual(run(queue, 17), plain.plain_history(queue, 17)[-1])


class MoversTest(unittest.TestCase):
    def test_example(self):
        self.assertEqual(list(movers(LINE, 6)), [3, 5, 3, 2, 4, 2])

    def test_table(self):
        self.assertEqual(list(movers(LINE, 10)), [mover for _, _, mover, _ in TABLE])

    def test_is_a_generator(self):
        self.assertTrue(inspect.isgeneratorfunction(movers))
        found = movers(LINE, 2)
        self.assertTrue(inspect.isgenerator(found))
        self.assertEqual([next(found), next(found), next(found, None)], [3, 5, None])

    def test_two_at_once(self):
        one, two = movers(LINE, 3), movers((5, 3, 2, 4), 3)
        self.assertEqual([next(one), next(two), next(one), next(two), next(one)], [3, 5, 5, 3, 3])

    def test_numbers_of_steps(self):
        self.assertEqual(list(movers(LINE, 0)), [])
        self.assertEqual(list(movers((7,), 3)), [7, 7, 7])
        self.assertEqual(len(list(movers(LINE, 2000))), 2000)

    def test_against_simulation(self):
        for queue in plain.all_queues(4) + plain.some_queues(80, 9) + plain.high_queues(40, 10):
            self.assertEqual(list(movers(queue, 20)), plain.plain_movers(queue, 20))
            for gap in GAPS:
                self.assertEqual(list(movers(queue, 20, gap=gap)), plain.plain_movers(queue, 20, gap))
        queue = plain.some_queues(1, 11, 40, 40)[0]
        self.assertEqual(list(movers(queue, 2000, gap=3)), plain.plain_movers(queue, 2000, 3))

    def test_errors_come_with_the_first_item(self):
        for queue, steps, gap, error in [
            ([3, 5], 3, 1, NoQueue), ((3, 3), -1, 0, NoQueue), (LINE, 2001, 1, NoSteps), (LINE, -1, 0, NoSteps),
            (LINE, True, 1, NoSteps), (LINE, 3, 0, NoGap), (LINE, 0, 10 ** 31 + 1, NoGap), (LINE, 0, True, NoGap),
        ]:
            with self.subTest(repr((queue, steps, gap))):
                found = movers(queue, steps, gap=gap)
                with self.assertRaises(error):
                    next(found)

    def test_one_taller_person_moves_in_between(self):
        for queue in plain.all_queues(5) + plain.some_queues(40, 12):
            row = list(movers(queue, 300))
            for person in queue:
                if person != max(queue):
                    self.check_turns([mover for mover in row if mover >= person], person)

    def check_turns(self, row, person):
        turns = [at for at, mover in enumerate(row) if mover == person]
        self.assertEqual([later - turn for turn, later in zip(turns, turns[1:])], [2] * (len(turns) - 1))


class AsTallTest(unittest.TestCase):
    def test_example(self):
        self.assertEqual(as_tall(LINE, 3), (3, 5, 4))

    def test_all_persons(self):
        self.assertEqual([as_tall(LINE, person) for person in (2, 4, 5)], [LINE, (5, 4), (5,)])
        self.assertEqual(as_tall((7,), 7), (7,))
        self.assertEqual(as_tall((-1, 0, -2), -1), (-1, 0))

    def test_against_words(self):
        for queue in plain.some_queues(80, 13) + plain.high_queues(40, 14):
            for person in queue:
                found = as_tall(queue, person)
                self.assertIsInstance(found, tuple)
                self.assertEqual(found, tuple(other for other in queue if not other < person))

    def test_same_order_of_moves(self):
        for queue in plain.all_queues(5) + plain.some_queues(20, 15, 2, 12):
            row = list(movers(queue, 60))
            for person in queue:
                tall = [mover for mover in row if mover >= person]
                self.assertEqual(tall, list(movers(as_tall(queue, person), len(tall))))


class TallerAheadTest(unittest.TestCase):
    def test_example(self):
        self.assertEqual(taller_ahead(LINE, 2), [3, 5])

    def test_order_is_from_the_front(self):
        self.assertEqual(taller_ahead((4, 9, 3, 7, 1, 8), 1), [4, 9, 3, 7])
        self.assertEqual(taller_ahead((4, 9, 3, 7, 1, 8), 8), [9])
        self.assertEqual(taller_ahead((4, 9, 3, 7, 1, 8), 3), [4, 9])

    def test_nobody(self):
        self.assertEqual(taller_ahead(LINE, 3), [])
        self.assertEqual(taller_ahead((7,), 7), [])
        self.assertEqual(taller_ahead((1, 2, 3), 3), [])

    def test_against_words(self):
        for queue in plain.all_queues(5) + plain.some_queues(80, 16) + plain.high_queues(40, 17):
            for person in queue:
                self.assertEqual(taller_ahead(queue, person), plain.plain_ahead(queue, person))

    def test_list_is_new(self):
        taller_ahead(LINE, 2).append(9)
        taller_ahead(LINE, 3).append(9)
        self.assertEqual([taller_ahead(LINE, 2), taller_ahead(LINE, 3)], [[3, 5], []])


class PersonsTest(unittest.TestCase):
    def test_true_and_false_are_no_persons(self):
        for call in (as_tall, taller_ahead):
            for person in (True, False):
                with self.assertRaises(NoPerson):
                    call((0, 1, 2), person)


if __name__ == "__main__":
    unittest.main()

"""Section 6 and point [2] (a): times in any queue."""

import random
import unittest

from tallerfirst.errors import NoNumber, NoPerson, NoSteps
from tallerfirst.queues import as_tall
from tallerfirst.times import first_move, moves_before, moves_of, nth_move, settling_time
from tests import plain
from tests.plain import CALM, FAR, LINE, TABLE


class MovesBeforeTest(unittest.TestCase):
    def test_example(self):
        self.assertEqual([moves_before(LINE, person) for person in LINE], [0, 0, 3, 1])

    def test_edges(self):
        self.assertEqual(moves_before((7,), 7), 0)
        self.assertEqual([moves_before((1, 2), 1), moves_before((2, 1), 1), moves_before((2, 1), 2)], [0, 1, 0])
        for size in (3, 5, 12, 40):
            self.assertEqual(moves_before(plain.slowest(size), 1), 2 ** (size - 1) - 1)

    def test_against_formula(self):
        for queue in plain.all_queues(6) + plain.some_queues(80, 30) + plain.high_queues(40, 29):
            self.assertEqual({person: moves_before(queue, person) for person in queue}, plain.plain_waits(queue))

    def test_against_simulation(self):
        for queue in plain.all_queues(6) + plain.some_queues(40, 31, 1, 9):
            row = plain.plain_movers(queue, 600)
            for person in queue:
                ahead = row[:row.index(person)]
                self.assertEqual(moves_before(queue, person), sum(1 for mover in ahead if mover > person))


class FirstMoveTest(unittest.TestCase):
    def test_example(self):
        self.assertEqual([first_move(LINE, person) for person in LINE], [1, 2, 4, 5])

    def test_edges(self):
        self.assertEqual(first_move((7,), 7), 1)
        self.assertEqual([first_move((-FAR, FAR), person) for person in (-FAR, FAR)], [1, 2])
        self.assertEqual(first_move(plain.slowest(40), 1), 2 ** 39)
        self.assertEqual(first_move(tuple(range(40)), 39), 2 ** 39)

    def test_against_simulation(self):
        for queue in plain.all_queues(6) + plain.some_queues(60, 32, 1, 9):
            row = plain.plain_movers(queue, 600)
            self.assertEqual([first_move(queue, person) for person in queue],
                             [row.index(person) + 1 for person in queue])

    def test_front_moves_first(self):
        for queue in plain.some_queues(80, 33) + plain.high_queues(40, 34):
            self.assertEqual(first_move(queue, queue[0]), 1)


class NthMoveTest(unittest.TestCase):
    def test_example(self):
        self.assertEqual([nth_move(LINE, 5, 1), nth_move(LINE, 3, 10 ** 9)], [9, 3999999999])

    def test_one_person(self):
        for number in (0, 1, 2, 10 ** 9, FAR):
            self.assertEqual(nth_move((7,), 7, number), number + 1)

    def test_against_simulation(self):
        for queue in plain.all_queues(5) + plain.some_queues(40, 35, 1, 8):
            row = plain.plain_movers(queue, 500)
            for person in queue:
                turns = [at + 1 for at, mover in enumerate(row) if mover == person]
                self.assertEqual([nth_move(queue, person, number) for number in range(len(turns))], turns)

    def test_long_queues_against_simulation(self):
        for queue in plain.some_queues(12, 36, 20, 40):
            row = plain.plain_movers(queue, 2000)
            for person in sorted(queue)[:8]:
                turns = [at + 1 for at, mover in enumerate(row) if mover == person]
                self.assertEqual([nth_move(queue, person, number) for number in range(len(turns))], turns)

    def test_far_moves_against_the_ring(self):
        for queue in plain.some_queues(12, 37, 1, 7):
            ring = 2 ** (len(queue) - 1)
            row = plain.plain_movers(queue, 3 * ring)
            for person in queue:
                for number in (FAR, FAR - 1, FAR // 2, 10 ** 12 + 7):
                    self.assertEqual(nth_move(queue, person, number), far_move(row, ring, person, number))

    def test_range_of_numbers(self):
        self.assertGreater(nth_move(LINE, 2, FAR), FAR)
        for number in (-1, FAR + 1, True, False, None, "1", (1,)):
            with self.assertRaises(NoNumber):
                nth_move(LINE, 3, number)


def far_move(row, ring, person, number):
    """Read a far move off the row of the first two rings, the second of which comes again and again."""
    early = [at + 1 for at, mover in enumerate(row[:ring]) if mover == person]
    again = [at + 1 for at, mover in enumerate(row[:2 * ring]) if mover == person and at >= ring]
    if number < len(early):
        return early[number]
    rounds, turn = divmod(number - len(early), len(again))
    return again[turn] + rounds * ring


class MovesOfTest(unittest.TestCase):
    def test_example(self):
        self.assertEqual(moves_of(LINE, 2, 10), 4)

    def test_table(self):
        row = [mover for _, _, mover, _ in TABLE]
        for steps in range(11):
            self.assertEqual([moves_of(LINE, person, steps) for person in LINE],
                             [row[:steps].count(person) for person in LINE])

    def test_edges(self):
        self.assertEqual([moves_of((7,), 7, steps) for steps in (0, 1, FAR)], [0, 1, FAR])
        for queue in plain.some_queues(40, 38):
            self.assertEqual([moves_of(queue, person, 0) for person in queue], [0] * len(queue))
            self.assertEqual([moves_of(queue, person, 1) for person in queue], [1] + [0] * (len(queue) - 1))

    def test_against_simulation(self):
        for queue in plain.all_queues(5) + plain.some_queues(40, 39, 1, 8):
            row = plain.plain_movers(queue, 150)
            for person in queue:
                for steps in (2, 3, 5, 8, 13, 21, 34, 55, 89, 149, 150):
                    self.assertEqual(moves_of(queue, person, steps), row[:steps].count(person))

    def test_long_queues_against_simulation(self):
        for queue in plain.some_queues(12, 40, 20, 40):
            row = plain.plain_movers(queue, 2000)
            for steps in (17, 999, 2000):
                self.assertEqual([moves_of(queue, person, steps) for person in queue],
                                 [row[:steps].count(person) for person in queue])

    def test_moves_add_up_to_the_steps(self):
        dice = random.Random(41)
        for queue in plain.high_queues(40, 42):
            for steps in (FAR, dice.randint(0, FAR), dice.randint(0, 2 ** 40)):
                self.assertEqual(sum(moves_of(queue, person, steps) for person in queue), steps)

    def test_moves_end_with_the_nth_move(self):
        for queue in plain.high_queues(40, 43):
            for person in queue:
                for number in (0, 1, 10 ** 9, 10 ** 18):
                    last = nth_move(queue, person, number)
                    self.assertEqual([moves_of(queue, person, last - 1), moves_of(queue, person, last)],
                                     [number, number + 1])

    def test_range_of_steps(self):
        self.assertEqual(moves_of(CALM, 2, FAR), FAR // 2)
        for steps in (-1, FAR + 1, True, False, None, "1", (1,)):
            with self.assertRaises(NoSteps):
                moves_of(LINE, 3, steps)


class SettlingTimeTest(unittest.TestCase):
    def test_example(self):
        self.assertEqual([settling_time(LINE), settling_time((2, 3, 4, 5, 1))], [2, 14])

    def test_settled_queues(self):
        for queue in [(7,), (1, 2), (2, 1), CALM, tuple(range(40))] + plain.some_settled(40, 44):
            self.assertEqual(settling_time(queue), 0)

    def test_against_simulation(self):
        for queue in plain.all_queues(7) + plain.some_queues(60, 45, 6, 10):
            self.assertEqual(settling_time(queue), plain.plain_settling_time(queue))

    def test_slowest_queue(self):
        for size in range(3, 41):
            self.assertEqual(settling_time(plain.slowest(size)), 2 ** (size - 1) - 2)

    def test_limit(self):
        for queue in plain.some_queues(200, 46, 3, 40):
            if queue[:-1] != tuple(sorted(queue)[1:]):
                self.assertLess(settling_time(queue), 2 ** (len(queue) - 1) - 2)

    def test_long_queues_against_simulation(self):
        queues = [tuple(range(40, 0, -1)), tuple(range(30, 40)) + tuple(range(30))]
        for queue in queues:
            steps = settling_time(queue)
            history = plain.plain_history(queue, steps)
            self.assertEqual(plain.plain_unsettled(history[steps]), [])
            self.assertNotEqual(plain.plain_unsettled(history[steps - 1]), [])

    def test_long_queues_are_the_latest_of_their_tall_parts(self):
        for queue in plain.some_queues(20, 47, 30, 40):
            times = [settling_time(as_tall(queue, person)) for person in queue]
            self.assertGreaterEqual(settling_time(queue), max(times))


class PersonsTest(unittest.TestCase):
    def test_true_and_false_are_no_persons(self):
        for person in (True, False):
            for call in (moves_before, first_move):
                with self.assertRaises(NoPerson):
                    call((0, 1, 2), person)
            for call in (nth_move, moves_of):
                with self.assertRaises(NoPerson):
                    call((0, 1, 2), person, 3)


if __name__ == "__main__":
    unittest.main()

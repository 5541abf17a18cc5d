"""Section 10 and points [2] (d) and [10]: gaps."""

import itertools
import math
import unittest

from tallerfirst.errors import NoGap, NoPerson, TooMany
from tallerfirst.gaps import cycle, respected, share, weight
from tests import plain
from tests.plain import CALM, FAR, LINE

GAPS = [1, 2, 3, 7, 30, 121, 10 ** 31]


class RespectedTest(unittest.TestCase):
    def test_example(self):
        self.assertEqual(respected(LINE, 2, gap=2), [4, 5])

    def test_gap_is_at_least(self):
        self.assertEqual([respected(LINE, 2, gap=gap) for gap in (1, 3, 4)], [[3, 4, 5], [5], []])
        self.assertEqual(respected((-FAR, FAR, 0), -FAR, gap=2 * FAR), [FAR])
        self.assertEqual(respected((-FAR, FAR, 0), -FAR, gap=2 * FAR + 1), [])
        self.assertEqual(respected((-FAR, FAR, 0), -FAR, gap=10 ** 31), [])

    def test_ahead_and_behind(self):
        self.assertEqual(respected((9, 8, 5, 7, 6), 5, gap=2), [7, 8, 9])
        self.assertEqual(respected((6, 7, 8, 9, 5), 5, gap=2), [7, 8, 9])

    def test_edges(self):
        self.assertEqual(respected((7,), 7, gap=1), [])
        line = tuple(range(40))
        self.assertEqual(respected(line, 0, gap=1), list(range(1, 40)))
        self.assertEqual(respected(line, 0, gap=39), [39])
        self.assertEqual(respected(line, 39, gap=1), [])

    def test_against_words(self):
        for queue in plain.some_queues(80, 110) + plain.high_queues(40, 111):
            for person in queue:
                for gap in GAPS + [FAR]:
                    self.assertEqual(respected(queue, person, gap=gap), plain.plain_respected(queue, person, gap))

    def test_list_is_new(self):
        respected(LINE, 2, gap=2).clear()
        respected(LINE, 5, gap=2).append(9)
        self.assertEqual([respected(LINE, 2, gap=2), respected(LINE, 5, gap=2)], [[4, 5], []])


class WeightTest(unittest.TestCase):
    def test_example(self):
        self.assertEqual([weight(LINE, 2, gap=1), weight(LINE, 2, gap=2), weight(LINE, 5, gap=1)], [4, 2, 1])

    def test_edges(self):
        self.assertEqual(weight((7,), 7, gap=1), 1)
        line = tuple(range(40))
        self.assertEqual([weight(line, person, gap=1) for person in (39, 38, 37, 0)], [1, 1, 2, 2 ** 38])
        self.assertEqual([weight(line, person, gap=39) for person in (39, 1, 0)], [1, 1, 1])
        self.assertEqual([weight(line, person, gap=10 ** 31) for person in (39, 0)], [1, 1])
        self.assertEqual([weight((0, FAR, -FAR), person, gap=FAR) for person in (FAR, 0, -FAR)], [1, 1, 2])

    def test_one_respected_person(self):
        self.assertEqual([weight((1, 3, 5), person, gap=2) for person in (5, 3, 1)], [1, 1, 2])
        self.assertEqual([weight((1, 3, 5), person, gap=3) for person in (5, 3, 1)], [1, 1, 1])

    def test_against_words(self):
        for queue in plain.all_queues(4) + plain.some_queues(80, 112) + plain.high_queues(40, 113):
            for gap in GAPS + [FAR]:
                right = plain.plain_weights(queue, gap)
                self.assertEqual({person: weight(queue, person, gap=gap) for person in queue}, right)

    def test_gap_one_doubles(self):
        for queue in plain.high_queues(40, 115):
            tall = sorted(queue, reverse=True)
            doubled = [1] + [2 ** at for at in range(len(queue) - 1)]
            self.assertEqual([weight(queue, person, gap=1) for person in tall], doubled)

    def test_order_does_not_matter(self):
        for queue in itertools.permutations((1, 2, 4, 7)):
            self.assertEqual([weight(queue, person, gap=3) for person in (1, 2, 4, 7)],
                             [weight((1, 2, 4, 7), person, gap=3) for person in (1, 2, 4, 7)])


class ShareTest(unittest.TestCase):
    def test_example(self):
        self.assertEqual(share(LINE, 2, gap=2), (2, 5))

    def test_edges(self):
        self.assertEqual(share((7,), 7, gap=1), (1, 1))
        self.assertEqual([share((1, 2), person, gap=1) for person in (1, 2)], [(1, 2), (1, 2)])
        line = tuple(range(40))
        self.assertEqual([share(line, person, gap=1) for person in (0, 1, 38, 39)],
                         [(1, 2), (1, 4), (1, 2 ** 39), (1, 2 ** 39)])
        self.assertEqual([share(line, person, gap=10 ** 31) for person in (0, 39)], [(1, 40), (1, 40)])

    def test_no_common_divisor(self):
        # The weights are 1, 1, 1, 3, so that nothing is divided, and 1, 1, 2, where two is.
        self.assertEqual([share((1, 4, 5, 6), person, gap=3) for person in (1, 6)], [(1, 2), (1, 6)])
        self.assertEqual([share((1, 3, 5), person, gap=2) for person in (1, 3)], [(1, 2), (1, 4)])

    def test_against_words(self):
        for queue in plain.some_queues(80, 116) + plain.high_queues(40, 118):
            for gap in GAPS + [FAR]:
                weights = plain.plain_weights(queue, gap)
                for person in queue:
                    top, bottom = share(queue, person, gap=gap)
                    self.assertEqual(top * sum(weights.values()), bottom * weights[person])
                    self.assertEqual(math.gcd(top, bottom), 1)
                    self.assertGreater(top, 0)

    def test_shares_of_the_moves(self):
        for queue in plain.all_queues(5) + plain.some_queues(30, 117, 5, 8, 9):
            for gap in (1, 2, 3, 5):
                start, length = plain.plain_cycle(queue, gap)
                row = plain.plain_movers(queue, start + length, gap)[start:]
                for person in queue:
                    top, bottom = share(queue, person, gap=gap)
                    self.assertEqual(row.count(person) * bottom, length * top)
                    tall = respected(queue, person, gap=gap)
                    if tall:
                        self.assertEqual(row.count(person), sum(row.count(other) for other in tall))


class CycleTest(unittest.TestCase):
    def test_example(self):
        self.assertEqual([cycle(LINE), cycle(LINE, gap=2)], [(2, 8), (4, 5)])

    def test_settled_queues(self):
        for queue in [(7,), (1, 2), CALM, tuple(range(40)), (FAR, -FAR)]:
            self.assertEqual(cycle(queue), (0, 2 ** (len(queue) - 1)))

    def test_slowest_queue(self):
        for size in (3, 7, 8, 40):
            for found in (cycle(plain.slowest(size)), cycle(plain.slowest(size), gap=1)):
                self.assertEqual(found, (2 ** (size - 1) - 2, 2 ** (size - 1)))

    def test_long_queues_without_a_gap(self):
        for queue in [tuple(range(40, 0, -1)), tuple(range(30, 40)) + tuple(range(30))]:
            self.assertEqual(cycle(queue), (plain.plain_settling_time(queue), 2 ** 39))

    def test_nobody_respects_anyone(self):
        for size in range(1, 8):
            for gap in (size, size + 1, 10 ** 31):
                if gap != 1:
                    self.assertEqual(cycle(tuple(range(size)), gap=gap), (0, size))

    def test_all_queues_against_simulation(self):
        for queue in plain.all_queues(5):
            for gap in range(1, 6):
                self.assertEqual(cycle(queue, gap=gap), plain.plain_cycle(queue, gap))

    def test_some_queues_against_simulation(self):
        for queue in plain.some_queues(60, 120, 4, 7, 9):
            self.assertEqual(cycle(queue), plain.plain_cycle(queue))
            for gap in (1, 2, 3, 4, 6, 9, 18):
                self.assertEqual(cycle(queue, gap=gap), plain.plain_cycle(queue, gap))

    def test_far_heights(self):
        queue = (0, FAR, -FAR, 5, FAR - 3)
        for gap in (1, 3, 4, 5, 6, FAR - 8, FAR, 2 * FAR - 3, 2 * FAR, 2 * FAR + 1, 10 ** 31):
            self.assertEqual(cycle(queue, gap=gap), plain.plain_cycle(queue, gap))

    def test_too_many_persons(self):
        for size in (8, 9, 40):
            for gap in (2, 10 ** 31):
                with self.assertRaises(TooMany) as caught:
                    cycle(tuple(range(size)), gap=gap)
                self.assertEqual(caught.exception.persons, size)
            for gap in (0, 10 ** 31 + 1, True, None):
                with self.assertRaises(NoGap):
                    cycle(tuple(range(size)), gap=gap)


class ErrorsTest(unittest.TestCase):
    def test_errors_in_order(self):
        for function in (respected, weight, share):
            for person, gap, error in [
                (6, 1, NoPerson), (6, 0, NoPerson), (True, 10 ** 31 + 1, NoPerson), (None, None, NoPerson),
                (3, 0, NoGap), (3, 10 ** 31 + 1, NoGap), (3, True, NoGap), (3, None, NoGap), (3, -1, NoGap),
            ]:
                with self.assertRaises(error):
                    function(LINE, person, gap=gap)
            for person in (True, False):
                with self.assertRaises(NoPerson):
                    function((0, 1, 2), person, gap=1)

    def test_gap_must_be_given(self):
        for function in (respected, weight, share):
            with self.assertRaises(TypeError):
                function(LINE, 3)


if __name__ == "__main__":
    unittest.main()

"""Section 11: reading movers."""

import itertools
import random
import unittest

from tallerfirst.errors import NoNumber, NoQueue, NoRow, NotFitting, TooMany
from tallerfirst.reading import certain_taller, fitting_heights, misfit, queues_with_row
from tests import plain
from tests.plain import FAR, LINE

ROWS = {}


def row_of(queue, many):
    """The first movers of the queue; they are kept, because many tests ask for the same ones."""
    if (queue, many) not in ROWS:
        ROWS[queue, many] = plain.plain_movers(queue, many)
    return ROWS[queue, many]


def queues_of_row(persons, row):
    """All queues to which the row belongs, by trying each one."""
    orders = itertools.permutations(sorted(persons))
    return [queue for queue in orders if row_of(queue, len(row)) == list(row)]


def queues_of_places(size, places):
    """All queues to which the place row belongs, by trying each one."""
    orders = itertools.permutations(range(1, size + 1))
    return [queue for queue in orders if row_of(queue, len(places)) == [queue[place] for place in places]]


def pairs_of(size, queues):
    """All pairs of places of which the first one is taller in each queue."""
    pairs = itertools.product(range(size), repeat=2)
    return [(a, b) for a, b in pairs if all(queue[a] > queue[b] for queue in queues)]


def all_rows(persons, most):
    """All lists of these persons up to this length."""
    return [list(row) for many in range(most + 1) for row in itertools.product(persons, repeat=many)]


def some_rows(queues, lengths, seed):
    """Pairs of a queue and a row that belongs to it or, each second one, is spoilt at some place."""
    dice = random.Random(seed)
    found = []
    for at, queue in enumerate(queues):
        row = list(row_of(queue, dice.choice(lengths)))
        if at % 2 and row:
            row[dice.choice([-1, dice.randrange(len(row))])] = dice.choice(queue)
        found.append((queue, row))
    return found


class QueuesWithRowTest(unittest.TestCase):
    def test_example(self):
        self.assertEqual(queues_with_row(LINE, [3, 5, 3]), [(3, 5, 2, 4), (3, 5, 4, 2)])

    def test_empty_row(self):
        for size in range(1, 8):
            every = list(itertools.permutations(range(size)))
            self.assertEqual(queues_with_row(tuple(range(size))[::-1], []), every)

    def test_one_person(self):
        for row in ([], [7], [7] * 200):
            self.assertEqual(queues_with_row((7,), row), [(7,)])

    def test_all_short_rows(self):
        for size in range(1, 5):
            persons = tuple(range(1, size + 1))
            for row in all_rows(persons, 5):
                self.assertEqual(queues_with_row(persons, row), queues_of_row(persons, row))

    def test_some_rows(self):
        queues = plain.some_queues(60, 160, 5, 6)
        for queue, row in some_rows(queues, [1, 3, 5, 8, 13, 40, 200], 161):
            found = queues_with_row(queue, row)
            self.assertEqual(found, queues_of_row(queue, row))
            self.assertTrue(all(isinstance(one, tuple) for one in found))

    def test_seven_persons(self):
        queue = (-FAR, 5, FAR, -3, 0, 9, 2)
        rows = [row_of(queue, many) for many in (1, 2, 6, 20, 200)]
        for row in rows + [rows[-1][:-1] + [-FAR], [5, 5], [-FAR, 5, -FAR, FAR], [9, 2, 9]]:
            self.assertEqual(queues_with_row(queue, row), queues_of_row(queue, row))

    def test_row_that_fits_up_to_its_last_mover(self):
        for queue in plain.some_queues(20, 162, 2, 7) + [(FAR, -FAR), (-FAR, 0, FAR)]:
            # After 200 steps each person has moved, so the last mover is certain.
            row = row_of(queue, 200)
            self.assertEqual(queues_with_row(queue, row), [queue])
            for person in queue:
                right = [queue] if person == row[-1] else []
                self.assertEqual(queues_with_row(queue, row[:-1] + [person]), right)

    def test_order_of_persons_does_not_matter(self):
        for persons in itertools.permutations(LINE):
            self.assertEqual(queues_with_row(persons, [5, 3]), queues_of_row(LINE, [5, 3]))

    def test_rows_beyond_the_limit_raise_nothing(self):
        row = row_of(LINE, 2500)
        self.assertEqual(queues_with_row(LINE, row), [LINE])
        self.assertIsNone(misfit(LINE, row))
        self.assertEqual(misfit(LINE, row + [row[-1]]), 2501)

    def test_too_many_persons(self):
        for size in (8, 9, 40):
            persons = tuple(range(size))
            for row in ([], [0], [0, 0]):
                with self.assertRaises(TooMany) as caught:
                    queues_with_row(persons, row)
                self.assertEqual(caught.exception.persons, size)
            for row in ([size], [True], (0,), None):
                with self.assertRaises(NoRow):
                    queues_with_row(persons, row)
        with self.assertRaises(NoQueue):
            queues_with_row(tuple(range(41)), None)

    def test_list_is_new(self):
        for row in ([], [3, 5, 3]):
            right = queues_of_row(LINE, row)
            queues_with_row(LINE, row).clear()
            queues_with_row(LINE, row).append(LINE)
            self.assertEqual(queues_with_row(LINE, row), right)


class MisfitTest(unittest.TestCase):
    def test_example(self):
        self.assertEqual([misfit((1, 2, 3), [1, 3, 2]), misfit((1, 2, 3), [2, 3, 2])], [3, None])

    def test_empty_row(self):
        for queue in [(7,), LINE, tuple(range(40))]:
            self.assertIsNone(misfit(queue, []))

    def test_one_and_two_persons(self):
        self.assertIsNone(misfit((7,), [7] * 200))
        self.assertIsNone(misfit((FAR, -FAR), [FAR, -FAR] * 100))
        self.assertEqual(misfit((FAR, -FAR), [FAR, -FAR] * 99 + [FAR, FAR]), 200)
        self.assertEqual(misfit((FAR, -FAR), [-FAR, -FAR, FAR]), 2)

    def test_all_short_rows(self):
        for size in range(1, 5):
            persons = tuple(range(1, size + 1))
            for row in all_rows(persons, 5):
                lengths = [many for many in range(len(row) + 1) if not queues_of_row(persons, row[:many])]
                self.assertEqual(misfit(persons, row), min(lengths, default=None))

    def test_beside_queues_with_row(self):
        for queue, row in some_rows(plain.some_queues(80, 163, 2, 7), [3, 9, 40, 200], 164):
            many = misfit(queue, row)
            self.assertEqual(many is None, queues_with_row(queue, row) != [])
            if many is not None:
                self.assertEqual(queues_with_row(queue, row[:many]), [])
                self.assertNotEqual(queues_with_row(queue, row[:many - 1]), [])

    def test_rows_of_200_movers(self):
        for queue in plain.some_queues(40, 165) + plain.high_queues(40, 166):
            self.assertIsNone(misfit(queue[::-1], row_of(queue, 200)))

    def test_40_persons_who_all_have_moved(self):
        queue = tuple(range(40, 0, -1))
        row = row_of(queue, 200)
        for at in range(40, 200, 9):
            for person in (1, 40, 25):
                if person != row[at]:
                    self.assertEqual(misfit(queue, row[:at] + [person] + row[at + 1:]), at + 1)
        self.assertEqual(misfit(queue, row[:199] + [row[0]]), 200)

    def test_40_persons_of_whom_some_have_moved(self):
        dice = random.Random(167)
        for queue in plain.high_queues(40, 168):
            row = row_of(queue, 200)
            for at in dice.sample(range(200), 20):
                person = dice.choice(queue)
                self.check_changed(queue, row[:at], row[at], person)

    def check_changed(self, queue, before, right, person):
        """After these movers another person moves than the right one."""
        # Who has not moved yet can stand at the front if the right one has not moved either.
        if person != right and (right in before or person in before):
            self.assertEqual(misfit(queue, before + [person]), len(before) + 1)
        else:
            self.assertIsNone(misfit(queue, before + [person]))
            moved = list(dict.fromkeys(before + [person]))
            other = tuple(moved + [one for one in queue if one not in moved])
            self.assertEqual(row_of(other, len(before) + 1), before + [person])


class FittingHeightsTest(unittest.TestCase):
    def test_example(self):
        self.assertEqual([fitting_heights(3, [0, 1, 0]), fitting_heights(3, [0, 1, 0, 2, 1])],
                         [[(1, 2, 3), (1, 3, 2), (2, 3, 1)], [(2, 3, 1)]])

    def test_empty_row(self):
        for size in range(1, 8):
            every = list(itertools.permutations(range(1, size + 1)))
            self.assertEqual(fitting_heights(size, []), every)
            self.assertEqual(fitting_heights(size, [0]), every)

    def test_one_person(self):
        self.assertEqual(fitting_heights(1, [0] * 200), [(1,)])

    def test_all_short_rows(self):
        for size in range(1, 5):
            for places in all_rows(range(size), 5):
                self.assertEqual(fitting_heights(size, places), queues_of_places(size, places))

    def test_some_rows(self):
        for queue, row in some_rows(list(itertools.permutations(range(1, 6))), [2, 4, 7, 12, 200], 169):
            places = [queue.index(person) for person in row]
            self.assertEqual(fitting_heights(5, places), queues_of_places(5, places))

    def test_seven_persons(self):
        dice = random.Random(170)
        for many in (1, 2, 3, 5, 9, 20):
            queue = tuple(dice.sample(range(1, 8), 7))
            places = [queue.index(person) for person in row_of(queue, many)]
            self.assertEqual(fitting_heights(7, places), queues_of_places(7, places))
            last = places[:-1] + [dice.randrange(7)]
            self.assertEqual(fitting_heights(7, last), queues_of_places(7, last))

    def test_rows_of_200_movers(self):
        for queue in itertools.permutations(range(1, 5)):
            places = [queue.index(person) for person in row_of(queue, 200)]
            self.assertEqual(fitting_heights(4, places), queues_of_places(4, places))
            for last in range(4):
                right = queues_of_places(4, places) if last == places[-1] else []
                self.assertEqual(fitting_heights(4, places[:-1] + [last]), right)

    def test_beside_queues_with_row(self):
        for queue, row in some_rows(plain.some_queues(30, 171, 2, 6, 3), [1, 4, 9, 30], 172):
            ranks = tuple(sorted(queue).index(person) + 1 for person in queue)
            places = [queue.index(person) for person in row]
            self.assertEqual(ranks in fitting_heights(len(queue), places), queue in queues_with_row(queue, row))

    def test_list_is_new(self):
        fitting_heights(3, [0, 1, 0]).clear()
        fitting_heights(3, [1]).append((1, 2, 3))
        self.assertEqual([len(fitting_heights(3, [0, 1, 0])), fitting_heights(3, [1])], [3, []])


class CertainTallerTest(unittest.TestCase):
    def test_example(self):
        self.assertEqual(certain_taller(3, [0, 1, 0]), [(1, 0)])

    def test_empty_row(self):
        for size in range(1, 8):
            self.assertEqual(certain_taller(size, []), [])
            self.assertEqual(certain_taller(size, [0]), [])

    def test_one_and_two_persons(self):
        self.assertEqual(certain_taller(1, [0] * 200), [])
        # Two persons change places in each step, whoever is taller.
        self.assertEqual(certain_taller(2, [0, 1] * 100), [])

    def test_all_short_rows(self):
        for size in range(1, 5):
            for places in all_rows(range(size), 5):
                self.check(size, places)

    def test_some_rows(self):
        for size, many in [(5, 120), (6, 40), (7, 6)]:
            queues = [queue for queue in plain.some_queues(many, 173 + size, size, size, size)]
            for queue, row in some_rows(queues, [2, 4, 7, 12, 30], 180 + size):
                ranks = tuple(sorted(queue).index(person) + 1 for person in queue)
                self.check(size, [queue.index(person) for person in row], ranks)

    def check(self, size, places, ranks=None):
        queues = queues_of_places(size, places)
        if queues:
            found = certain_taller(size, places)
            self.assertEqual(found, pairs_of(size, queues))
            if ranks in queues:
                self.assertTrue(all(ranks[a] > ranks[b] for a, b in found))
        else:
            with self.assertRaises(NotFitting):
                certain_taller(size, places)

    def test_rows_of_200_movers(self):
        for queue in itertools.permutations(range(1, 5)):
            places = [queue.index(person) for person in row_of(queue, 200)]
            self.check(4, places, queue)
            for last in range(4):
                if last != places[-1]:
                    with self.assertRaises(NotFitting):
                        certain_taller(4, places[:-1] + [last])

    def test_list_is_new(self):
        certain_taller(3, [0, 1, 0]).clear()
        certain_taller(3, []).append((0, 1))
        self.assertEqual([certain_taller(3, [0, 1, 0]), certain_taller(3, [])], [[(1, 0)], []])


class PlacesTest(unittest.TestCase):
    """What fitting_heights and certain_taller refuse alike."""

    def check(self, error, size, places):
        for function in (fitting_heights, certain_taller):
            with self.subTest(function.__name__, size=size, places=places):
                with self.assertRaises(error) as caught:
                    function(size, places)
                self.assertIs(type(caught.exception), error)
                if error is TooMany:
                    self.assertEqual(caught.exception.persons, size)

    def test_size(self):
        for size in (0, -1, 41, 10 ** 36, True, None, "3", 3 * (1,)):
            for places in ([], [0], [99], None):
                self.check(NoNumber, size, places)

    def test_places(self):
        others = [[-1], [False], [0, True], ["0"], [None], [[0]], (0,), (), None, "0", {0: 0}]
        for size in (1, 3, 7, 8, 40):
            for places in [[size], [0, size]] + others:
                self.check(NoRow, size, places)

    def test_too_many_persons(self):
        for size in (8, 9, 40):
            for places in ([], [0], [size - 1], [0, 0], [0] * 200):
                self.check(TooMany, size, places)

    def test_seven_persons_are_not_too_many(self):
        self.assertEqual(fitting_heights(7, [6]), [])
        with self.assertRaises(NotFitting):
            certain_taller(7, [6])


if __name__ == "__main__":
    unittest.main()

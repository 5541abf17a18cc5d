"""Points [1], [2] and [6] to [8] between all files: different ways to the same answer must agree."""

import itertools
import random
import unittest

from tallerfirst.backwards import count_before, queues_before, settled_before
from tallerfirst.console import Console
from tallerfirst.errors import NotSettled
from tallerfirst.far import mover_at, place_after, queue_after
from tallerfirst.gaps import cycle, respected, share, weight
from tallerfirst.live import LiveQueue
from tallerfirst.phases import meet, phase, queues_with_phase
from tallerfirst.queues import as_tall, host, movers, run, step, taller_ahead
from tallerfirst.reading import certain_taller, fitting_heights, misfit, queues_with_row
from tallerfirst.settled import is_settled, number_of, settled_queue, steps_between, unsettled
from tallerfirst.texts import read_queue, show_queue
from tallerfirst.times import first_move, moves_before, moves_of, nth_move, settling_time
from tests import plain
from tests.plain import FAR, LINE, TABLE


def samples(many, seed):
    return [(7,), (FAR, -FAR), plain.slowest(40)] + plain.some_queues(many, seed) + plain.high_queues(many, seed + 1)


class LiveTest(unittest.TestCase):
    """A live queue beside the functions."""

    def test_steps_one_by_one(self):
        for queue in samples(40, 220):
            live = LiveQueue(queue)
            for steps in range(1, 41):
                self.assertEqual(live.front, mover_at(queue, steps))
                self.assertEqual(live.step(), live.queue[place_after(queue, mover_at(queue, steps), steps)])
                self.assertEqual(live.queue, queue_after(queue, steps))
                self.assertEqual(live.queue, run(queue, steps))
                self.assertEqual(phase(live.queue), (phase(queue) - steps) % 2 ** (len(queue) - 1))

    def test_steps_with_gaps(self):
        for queue in plain.some_queues(40, 222):
            for gap in (1, 2, 9, 10 ** 31):
                live = LiveQueue(queue, gap=gap)
                row = list(movers(queue, 50, gap=gap))
                for steps in range(50):
                    self.assertEqual(live.preview(("step",)), step(live.queue, gap=gap))
                    behind = host(live.queue, gap=gap)
                    mover = live.step()
                    self.assertEqual(mover, row[steps])
                    if behind is None:
                        self.assertEqual(live.queue[-1], mover)
                    else:
                        self.assertEqual(live.queue[live.queue.index(behind) + 1], mover)
                other = LiveQueue(queue, gap=gap)
                other.steps(50)
                self.assertTrue(live == other)
                self.assertEqual(live.queue, run(queue, 50, gap=gap))

    def test_far_steps(self):
        dice = random.Random(223)
        for queue in samples(40, 224):
            live = LiveQueue(queue)
            total = 0
            for most in (100, 2 ** 39, FAR // 3, FAR // 3):
                count = dice.randint(1, most)
                total += count
                live.steps(count)
                self.assertEqual(live.queue, queue_after(queue, total))
                self.assertEqual(live.front, mover_at(queue, total + 1))
                self.assertEqual(phase(live.queue), (phase(queue) - total) % 2 ** (len(queue) - 1))

    def test_settling(self):
        for queue in samples(40, 226):
            steps = settling_time(queue)
            live = LiveQueue(queue)
            if steps > 1:
                live.steps(steps - 1)
            if steps:
                self.assertNotEqual(unsettled(live.queue), [])
                with self.assertRaises(NotSettled):
                    number_of(live.queue)
                live.step()
            self.assertTrue(is_settled(live.queue))
            ring = 2 ** (len(queue) - 1)
            number = number_of(live.queue)
            self.assertEqual([number, phase(live.queue)], [(phase(queue) - steps) % ring] * 2)
            self.assertTrue(live == LiveQueue.settled(queue, number))
            live.step()
            self.assertEqual(number_of(live.queue), (number - 1) % ring)

    def test_moves(self):
        for queue in plain.some_queues(40, 228):
            live = LiveQueue(queue)
            row = [live.step() for _ in range(60)]
            for person in queue:
                self.assertEqual(moves_of(queue, person, 60), row.count(person))
                if person in row:
                    first = row.index(person)
                    self.assertEqual([first_move(queue, person), nth_move(queue, person, 0)], [first + 1] * 2)
                    taller = [mover for mover in row[:first] if mover > person]
                    self.assertEqual(moves_before(queue, person), len(taller))

    def test_who_joins_and_leaves(self):
        for queue in plain.some_queues(40, 229, 2, 39):
            live = LiveQueue(queue)
            live.join(100)
            self.assertEqual([taller_ahead(live.queue, 100), live.queue], [[], queue + (100,)])
            live.steps(10 ** 9)
            self.assertEqual(live.queue, queue_after(queue + (100,), 10 ** 9))
            live.undo()
            live.leave(100)
            for person in sorted(queue)[:len(queue) // 2]:
                live.leave(person)
            # Who leaves from the shortest on leaves the others as they were.
            self.assertEqual(live.queue, as_tall(queue, min(live.queue)))


class ConsoleTest(unittest.TestCase):
    """A console beside a live queue and the functions."""

    def test_each_question(self):
        dice = random.Random(230)
        for queue in samples(40, 231):
            console, live = Console(), LiveQueue(queue)
            console.say("queue " + show_queue(queue))
            for most in (1, 5, 2 ** 39, FAR):
                self.check(console, live, dice.choice(queue), dice.randint(1, most))
                count = dice.randint(1, most)
                live.steps(count)
                self.assertEqual(console.say(f"steps {count}"), "ok")
                self.assertEqual(console.say("step"), str(live.step()))

    def check(self, console, live, person, count):
        queue = live.queue
        self.assertEqual(read_queue(console.say("show")), queue)
        self.assertEqual(console.say("phase"), str(phase(queue)))
        self.assertEqual(console.say("settle"), str(settling_time(queue)))
        self.assertEqual(console.say(f"after {count}"), show_queue(queue_after(queue, count)))
        self.assertEqual(console.say(f"mover {count}"), str(mover_at(queue, count)))
        self.assertEqual(console.say(f"first {person}"), str(first_move(queue, person)))
        self.assertEqual(console.say(f"moves {person} {count}"), str(moves_of(queue, person, count)))
        if is_settled(queue):
            self.assertEqual(console.say("number"), str(number_of(queue)))
        else:
            with self.assertRaises(NotSettled):
                console.say("number")

    def test_operations(self):
        console, live = Console(), LiveQueue(LINE)
        console.say("queue " + show_queue(live.queue))
        for word, *rest in [("join", 9), ("step",), ("leave", 5), ("steps", FAR), ("undo",), ("undo",), ("join", -FAR)]:
            getattr(live, word)(*rest)
            console.say(" ".join([word, *map(str, rest)]))
            self.assertEqual(console.say("show"), show_queue(live.queue))


class RowsTest(unittest.TestCase):
    """Rows of movers beside movers, share and live queues."""

    def test_movers_belong_to_their_queue(self):
        for queue in samples(40, 240):
            self.assertIsNone(misfit(queue, list(movers(queue, 200))))
        for queue in plain.some_queues(40, 242, 1, 6):
            row = list(movers(queue, 12))
            for found in queues_with_row(queue, row):
                self.assertEqual(list(movers(found, 12)), row)
            self.assertIn(queue, queues_with_row(queue, row))

    def test_places_belong_to_their_heights(self):
        for queue in itertools.permutations(range(1, 5)):
            for many in (0, 3, 6, 200):
                row = list(movers(queue, many))
                places = [queue.index(person) for person in row]
                self.assertIn(queue, fitting_heights(4, places))
                for found in fitting_heights(4, places):
                    self.assertEqual(list(movers(found, many)), [found[place] for place in places])
                for high, low in certain_taller(4, places):
                    self.assertGreater(queue[high], queue[low])

    def test_rows_of_live_queues(self):
        for queue in plain.some_queues(40, 243, 2, 7):
            live = LiveQueue(queue)
            row = [live.step() for _ in range(100)]
            self.assertEqual(queues_with_row(queue, row), [queue])

    def test_shares(self):
        for queue in plain.some_queues(40, 244, 1, 7, 9):
            for gap in (1, 2, 4):
                start, length = cycle(queue, gap=gap)
                live = LiveQueue(queue, gap=gap)
                if start:
                    live.steps(start)
                again = live.queue
                row = [live.step() for _ in range(length)]
                self.assertEqual(live.queue, again)
                for person in queue:
                    top, bottom = share(queue, person, gap=gap)
                    self.assertEqual(row.count(person) * bottom, length * top)
                    whom = respected(queue, person, gap=gap)
                    if whom:
                        self.assertEqual(row.count(person), sum(row.count(other) for other in whom))
                    self.assertEqual(row.count(person) * weight(queue, max(queue), gap=gap),
                                     row.count(max(queue)) * weight(queue, person, gap=gap))

    def test_one_taller_person_moves_between_two_moves(self):
        for queue in samples(40, 245):
            row = list(movers(queue, 300))
            for person in sorted(set(row)):
                tall = [mover for mover in row if mover >= person]
                turns = [at for at, mover in enumerate(tall) if mover == person]
                if person != max(queue):
                    self.assertEqual([two - one for one, two in zip(turns, turns[1:])], [2] * (len(turns) - 1))


class ResultsTest(unittest.TestCase):
    """The main results of point [2]."""

    def test_settling_times(self):
        for size in range(1, 7):
            times = {queue: settling_time(queue) for queue in itertools.permutations(range(1, size + 1))}
            most = 0 if size == 1 else 2 ** (size - 1) - 2
            self.assertEqual(max(times.values()), most)
            if size >= 3:
                self.assertEqual([queue for queue in times if times[queue] == most], [plain.slowest(size)])

    def test_ring(self):
        for size in range(1, 7):
            ring = 2 ** (size - 1)
            live = LiveQueue.settled(tuple(range(size)), ring - 1)
            first = live.queue
            for number in reversed(range(ring)):
                self.assertEqual([number_of(live.queue), live.queue], [number, settled_queue(first, number)])
                self.assertEqual(steps_between(first, live.queue), ring - 1 - number)
                self.assertEqual(settled_before(live.queue, ring - 1 - number), first)
                live.step()
            self.assertEqual(live.queue, first)

    def test_queues_that_become_equal(self):
        for size in range(1, 5):
            orders = list(itertools.permutations(range(size)))
            for queue, other in itertools.product(orders, orders):
                steps = meet(queue, other)
                self.assertEqual(steps is None, phase(queue) != phase(other))
                one, two = LiveQueue(queue), LiveQueue(other)
                for _ in range(steps or 0):
                    self.assertFalse(one == two)
                    one.step()
                    two.step()
                self.assertEqual(one == two, steps is not None)
                self.assertEqual(other in queues_with_phase(queue, phase(queue)), steps is not None)

    def test_back_in_time(self):
        for queue in plain.some_queues(60, 246, 1, 7):
            self.assertEqual(count_before(queue, 1), len(queues_before(queue)))
            for before in queues_before(queue):
                live = LiveQueue(before)
                live.step()
                self.assertEqual(live.queue, queue)

    def test_table(self):
        live, console = LiveQueue(LINE), Console()
        console.say("queue " + show_queue(LINE))
        for steps, queue, mover, number in TABLE:
            self.assertEqual([live.queue, run(LINE, steps), queue_after(LINE, steps)], [queue] * 3)
            self.assertEqual(console.say(f"after {steps}"), show_queue(queue))
            self.assertEqual([live.step(), mover_at(LINE, steps + 1)], [mover] * 2)
            self.assertEqual(is_settled(queue), number is not None)
            if number is not None:
                self.assertEqual([number_of(queue), phase(queue)], [number] * 2)


if __name__ == "__main__":
    unittest.main()

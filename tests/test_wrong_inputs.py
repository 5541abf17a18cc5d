"""Points [3] and [4]: wrong inputs of every kind, alone and several at a time."""

import copy
import inspect
import itertools
import unittest

from tallerfirst import backwards, far, gaps, live, phases, queues, reading, settled, texts, times
from tallerfirst.errors import NoGap, NoNumber, NoPerson, NoQueue, NoRow, NoSteps, NoText, QueueError
from tests import plain
from tests.plain import FAR, LINE

# Of each parameter: a right value, some wrong values, the error.
QUEUE = (LINE, plain.wrong_queues(), NoQueue)
CALM_QUEUE = (plain.CALM, plain.wrong_queues(), NoQueue)
GAP = (1, plain.wrong_integers(1, 10 ** 31), NoGap)
STEPS = (4, plain.wrong_integers(0, 2000), NoSteps)
FAR_STEPS = (4, plain.wrong_integers(0, FAR), NoSteps)
FAR_STEP = (4, plain.wrong_integers(1, FAR), NoSteps)
STEPS_BACK = (4, plain.wrong_integers(0, 60), NoSteps)
PERSON = (3, plain.wrong_persons(LINE), NoPerson)
NUMBER = (4, plain.wrong_integers(0, 7), NoNumber)
FAR_NUMBER = (4, plain.wrong_integers(0, FAR), NoNumber)
SIZE = (4, plain.wrong_integers(1, 40), NoNumber)
ROW = ([3, 5, 3], plain.wrong_rows(LINE), NoRow)
PLACES = ([0, 1, 0], plain.wrong_rows(range(4)), NoRow)
TEXT = ("3 5 2 4", [value for value in plain.wrong_queues() if value not in ("3", "3 5 2 4")] + [LINE], NoText)

# The parameters of each function, in the order in which their errors are listed.
CALLS = [
    (queues.host, {"queue": QUEUE, "gap": GAP}),
    (queues.step, {"queue": QUEUE, "gap": GAP}),
    (queues.run, {"queue": QUEUE, "steps": STEPS, "gap": GAP}),
    (queues.movers, {"queue": QUEUE, "steps": STEPS, "gap": GAP}),
    (queues.as_tall, {"queue": QUEUE, "person": PERSON}),
    (queues.taller_ahead, {"queue": QUEUE, "person": PERSON}),
    (settled.is_settled, {"queue": QUEUE}),
    (settled.unsettled, {"queue": QUEUE}),
    (settled.number_of, {"queue": CALM_QUEUE}),
    (settled.settled_queue, {"persons": QUEUE, "number": NUMBER}),
    (settled.steps_between, {"queue": CALM_QUEUE, "other": CALM_QUEUE}),
    (times.moves_before, {"queue": QUEUE, "person": PERSON}),
    (times.first_move, {"queue": QUEUE, "person": PERSON}),
    (times.nth_move, {"queue": QUEUE, "person": PERSON, "number": FAR_NUMBER}),
    (times.moves_of, {"queue": QUEUE, "person": PERSON, "steps": FAR_STEPS}),
    (times.settling_time, {"queue": QUEUE}),
    (far.queue_after, {"queue": QUEUE, "steps": FAR_STEPS}),
    (far.mover_at, {"queue": QUEUE, "step": FAR_STEP}),
    (far.place_after, {"queue": QUEUE, "person": PERSON, "steps": FAR_STEPS}),
    (phases.phase, {"queue": QUEUE}),
    (phases.meet, {"queue": QUEUE, "other": QUEUE}),
    (phases.queues_with_phase, {"persons": QUEUE, "phase": NUMBER}),
    (backwards.queues_before, {"queue": QUEUE}),
    (backwards.has_queue_before, {"queue": QUEUE}),
    (backwards.settled_before, {"queue": CALM_QUEUE, "steps": FAR_STEPS}),
    (backwards.count_before, {"queue": QUEUE, "steps": STEPS_BACK}),
    (backwards.counts_by_before, {"size": SIZE}),
    (gaps.respected, {"queue": QUEUE, "person": PERSON, "gap": GAP}),
    (gaps.weight, {"queue": QUEUE, "person": PERSON, "gap": GAP}),
    (gaps.share, {"queue": QUEUE, "person": PERSON, "gap": GAP}),
    (gaps.cycle, {"queue": QUEUE, "gap": GAP}),
    (reading.queues_with_row, {"persons": QUEUE, "row": ROW}),
    (reading.misfit, {"persons": QUEUE, "row": ROW}),
    (reading.fitting_heights, {"size": SIZE, "places": PLACES}),
    (reading.certain_taller, {"size": SIZE, "places": PLACES}),
    (live.LiveQueue, {"queue": QUEUE, "gap": GAP}),
    (live.LiveQueue.settled, {"persons": QUEUE, "number": NUMBER}),
    (texts.show_queue, {"queue": QUEUE}),
    (texts.read_queue, {"text": TEXT}),
]

SIGNATURES = {
    queues: {
        "is_queue": "(value)",
        "host": "(queue, *, gap=1)",
        "step": "(queue, *, gap=1)",
        "run": "(queue, steps, *, gap=1)",
        "movers": "(queue, steps, *, gap=1)",
        "as_tall": "(queue, person)",
        "taller_ahead": "(queue, person)",
    },
    settled: {
        "is_settled": "(queue)",
        "unsettled": "(queue)",
        "number_of": "(queue)",
        "settled_queue": "(persons, number)",
        "steps_between": "(queue, other)",
    },
    times: {
        "moves_before": "(queue, person)",
        "first_move": "(queue, person)",
        "nth_move": "(queue, person, number)",
        "moves_of": "(queue, person, steps)",
        "settling_time": "(queue)",
    },
    far: {
        "queue_after": "(queue, steps)",
        "mover_at": "(queue, step)",
        "place_after": "(queue, person, steps)",
    },
    phases: {
        "phase": "(queue)",
        "meet": "(queue, other)",
        "queues_with_phase": "(persons, phase)",
    },
    backwards: {
        "queues_before": "(queue)",
        "has_queue_before": "(queue)",
        "settled_before": "(queue, steps)",
        "count_before": "(queue, steps)",
        "counts_by_before": "(size)",
    },
    gaps: {
        "respected": "(queue, person, *, gap)",
        "weight": "(queue, person, *, gap)",
        "share": "(queue, person, *, gap)",
        "cycle": "(queue, *, gap=1)",
    },
    reading: {
        "queues_with_row": "(persons, row)",
        "misfit": "(persons, row)",
        "fitting_heights": "(size, places)",
        "certain_taller": "(size, places)",
    },
    texts: {
        "show_queue": "(queue)",
        "read_queue": "(text)",
    },
}


def call(function, values):
    """Call the function by position, and with the gap by keyword; exhaust a generator."""
    named = {name: value for name, value in values.items() if name == "gap"}
    placed = [value for name, value in values.items() if name != "gap"]
    result = function(*placed, **named)
    return list(result) if inspect.isgenerator(result) else result


class WrongInputsTest(unittest.TestCase):
    def test_right_values_are_taken(self):
        for function, parameters in CALLS:
            call(function, {name: right for name, (right, _, _) in parameters.items()})

    def test_one_wrong_value(self):
        for function, parameters in CALLS:
            for name, (_, wrong, error) in parameters.items():
                for value in wrong:
                    values = {other: right for other, (right, _, _) in parameters.items()}
                    values[name] = value
                    self.check(function, values, error)

    def test_several_wrong_values(self):
        for function, parameters in CALLS:
            names = list(parameters)
            for many in range(2, len(names) + 1):
                for bad in itertools.combinations(names, many):
                    self.check_together(function, parameters, bad)

    def check_together(self, function, parameters, bad):
        values = {name: right for name, (right, _, _) in parameters.items()}
        error = parameters[bad[0]][2]
        for at in range(0, 40, 3):
            for name in bad:
                wrong = parameters[name][1]
                values[name] = wrong[at % len(wrong)]
            self.check(function, values, error)

    def check(self, function, values, error):
        before = repr(values)
        with self.subTest(function.__name__, values=before):
            with self.assertRaises(error) as caught:
                call(function, values)
            self.assertIs(type(caught.exception), error)
            self.assertEqual(repr(values), before)

    def test_bools_that_equal_persons(self):
        for function in (reading.queues_with_row, reading.misfit):
            for row in ([True], [0, True], [False, 1], [2, 0, False]):
                with self.assertRaises(NoRow):
                    function((0, 1, 2), row)

    def test_errors_change_nothing(self):
        for function, parameters in CALLS:
            right = {name: value for name, (value, _, _) in parameters.items()}
            before = copy.deepcopy(call(function, right))
            with self.assertRaises(QueueError):
                call(function, {name: None for name in parameters})
            self.assertEqual(call(function, right), before)

    def test_no_argument_changes(self):
        for function, parameters in CALLS:
            right = {name: value for name, (value, _, _) in parameters.items()}
            before = repr(right)
            call(function, right)
            self.assertEqual(repr(right), before)


class EdgesTest(unittest.TestCase):
    def test_edges_are_taken(self):
        line = tuple(range(40))
        for steps in (0, 2000):
            self.assertEqual(len(list(queues.movers(line, steps))), steps)
            self.assertEqual(sorted(queues.run(line, steps)), list(line))
        for gap in (1, 10 ** 31):
            self.assertEqual(queues.run(line, 1, gap=gap), queues.step(line, gap=gap))
            self.assertEqual(queues.host(line, gap=gap), 1 if gap == 1 else None)
            self.assertEqual(list(queues.movers(line, 1, gap=gap)), [0])
        for number in (0, FAR):
            self.assertEqual(times.nth_move(line, 0, number), 1 + 2 * number)
            self.assertEqual(times.moves_of(line, 0, number), number // 2)

        for steps in (0, FAR):
            self.assertEqual(far.place_after(line, 0, steps), far.queue_after(line, steps).index(0))
            self.assertEqual(backwards.settled_before(far.queue_after(line, steps), steps), line)
        # 10 ** 30 is 30 times divisible by 2, so 30 persons are shorter than its mover.
        self.assertEqual([far.mover_at(line, step) for step in (1, FAR)], [0, 30])

    def test_one_beyond(self):
        line = tuple(range(40))
        for steps in (-1, 2001):
            for function in (queues.run, queues.movers):
                with self.assertRaises(NoSteps):
                    call(function, {"queue": line, "steps": steps, "gap": 1})
        for gap in (0, 10 ** 31 + 1):
            for function in (queues.host, queues.step):
                with self.assertRaises(NoGap):
                    function(line, gap=gap)
        for number in (-1, FAR + 1):
            with self.assertRaises(NoNumber):
                times.nth_move(line, 0, number)
            with self.assertRaises(NoSteps):
                times.moves_of(line, 0, number)
            for function in (far.queue_after, backwards.settled_before):
                with self.assertRaises(NoSteps):
                    function(line, number)
            with self.assertRaises(NoSteps):
                far.place_after(line, 0, number)
        for step in (0, FAR + 1):
            with self.assertRaises(NoSteps):
                far.mover_at(line, step)
        for steps in (-1, 61):
            with self.assertRaises(NoSteps):
                backwards.count_before(line, steps)
        for size in (0, 41):
            with self.assertRaises(NoNumber):
                backwards.counts_by_before(size)


class InterfaceTest(unittest.TestCase):
    def test_signatures_and_files(self):
        for module, functions in SIGNATURES.items():
            for name, signature in functions.items():
                with self.subTest(name):
                    function = getattr(module, name)
                    self.assertEqual(str(inspect.signature(function)), signature)
                    self.assertEqual(function.__module__, module.__name__)
                    self.assertEqual(function.__name__, name)

    def test_same_results_again(self):
        first = [call(function, {name: value for name, (value, _, _) in parameters.items()})
                 for function, parameters in CALLS]
        again = [call(function, {name: value for name, (value, _, _) in parameters.items()})
                 for function, parameters in CALLS]
        self.assertEqual(first, again)
        for one, two in zip(first, again):
            if isinstance(one, list):
                self.assertIsNot(one, two)


if __name__ == "__main__":
    unittest.main()

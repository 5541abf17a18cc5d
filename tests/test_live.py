"""Section 12: live queues."""

import inspect
import random
import unittest

from tallerfirst.errors import Full, NoGap, NoNumber, NoOperation, NoPerson, NoQueue, NoSteps, Nothing
from tallerfirst.live import LiveQueue
from tests import plain
from tests.plain import CALM, FAR, LINE, TABLE

GAPS = [1, 2, 3, 10 ** 31]


class EqualToAll:
    """A value of a kind of its own, to which each word seems to be equal."""

    def __eq__(self, other):
        return True


WRONG_OPERATIONS = [
    (), "step", ["step"], [("step",)], None, True, 3, b"step", {"step": 1}, {"step"}, ("step", 1), (("step",),),
    ("step", None), ("steps",), ("steps", 1, 2), ("join",), ("join", 1, 2), ("leave",), ("leave", 3, 3), ("undo",),
    ("undo", 1), ("log",), ("Step",), ("step ",), ("",), (None,), (b"step",), (["step"],), ({},), (True,), (0, 1),
    ("step", "step"), ("stepsteps", 1), (("steps",), 1), (None, None), [], ["steps", 2], ("preview", 1), ("front",),
    (EqualToAll(),), (EqualToAll(), 1), EqualToAll(),
]


def state(live):
    """All that a live queue tells of itself."""
    return live.queue, live.gap, live.front, len(live), live.log()


class CreationTest(unittest.TestCase):
    def test_example(self):
        live = LiveQueue(LINE, gap=2)
        self.assertEqual([live.queue, live.gap, live.front, len(live), LiveQueue.LIMIT], [LINE, 2, 3, 4, 40])

    def test_new_live_queue(self):
        for queue in [(7,), (FAR, -FAR), tuple(range(40))] + plain.high_queues(40, 190):
            self.assertEqual(state(LiveQueue(queue)), (queue, 1, queue[0], len(queue), []))
            for gap in GAPS:
                self.assertEqual(state(LiveQueue(queue, gap=gap)), (queue, gap, queue[0], len(queue), []))

    def test_of(self):
        self.assertEqual(LiveQueue.of(3, 5, 2, 4).queue, LINE)
        for queue in [(7,), (FAR, -FAR), tuple(range(40))]:
            self.assertEqual(state(LiveQueue.of(*queue)), (queue, 1, queue[0], len(queue), []))
            self.assertIs(type(LiveQueue.of(*queue)), LiveQueue)

    def test_of_wrong_heights(self):
        for heights in [(), (3, 3), (True,), (1, True), (LINE,), ([3],), ("3",), (None,), (FAR + 1,), (-FAR - 1, 2)]:
            with self.assertRaises(NoQueue):
                LiveQueue.of(*heights)
        with self.assertRaises(NoQueue):
            LiveQueue.of(*range(41))

    def test_settled(self):
        self.assertEqual(LiveQueue.settled(LINE, 6).queue, CALM)
        self.assertEqual(state(LiveQueue.settled((7,), 0)), ((7,), 1, 7, 1, []))
        for number in range(8):
            right = plain.plain_settled_queue(LINE, number)
            self.assertEqual(state(LiveQueue.settled(LINE, number)), (right, 1, right[0], 4, []))
        for number in (0, 1, 2 ** 39 - 1, 2 ** 38 + 12345):
            right = plain.plain_settled_queue(range(40), number)
            self.assertEqual(LiveQueue.settled(tuple(range(40)), number).queue, right)

    def test_settled_with_wrong_numbers(self):
        for persons, number in [(LINE, 8), (LINE, -1), (LINE, True), (LINE, None), ((7,), 1), ((7,), "0")]:
            with self.assertRaises(NoNumber):
                LiveQueue.settled(persons, number)
        for persons, number in [((3, 3), 8), ([3, 5], None), ((), 0)]:
            with self.assertRaises(NoQueue):
                LiveQueue.settled(persons, number)

    def test_errors_in_order(self):
        for queue, gap, error in [((3, 3), 0, NoQueue), (list(LINE), None, NoQueue), (LINE, 0, NoGap),
                                  (LINE, True, NoGap), (LINE, 10 ** 31 + 1, NoGap), (LINE, None, NoGap)]:
            with self.assertRaises(error):
                LiveQueue(queue, gap=gap)

    def test_interface(self):
        signatures = {
            "step": "(self)", "steps": "(self, count)", "join": "(self, person)", "leave": "(self, person)",
            "undo": "(self)", "log": "(self)", "preview": "(self, *operations)", "__len__": "(self)",
            "__eq__": "(self, other)", "__init__": "(self, queue, *, gap=1)",
        }
        for name, signature in signatures.items():
            self.assertEqual(str(inspect.signature(vars(LiveQueue)[name])), signature)
        for name in ("queue", "gap", "front"):
            self.assertIsInstance(vars(LiveQueue)[name], property)
        for name, signature in {"of": "(*heights)", "settled": "(persons, number)"}.items():
            self.assertIsInstance(vars(LiveQueue)[name], classmethod)
            self.assertEqual(str(inspect.signature(getattr(LiveQueue, name))), signature)
        self.assertEqual([LiveQueue.__module__, vars(LiveQueue)["LIMIT"]], ["tallerfirst.live", 40])


class StepsTest(unittest.TestCase):
    def test_step_example(self):
        live = LiveQueue.of(3, 5, 2, 4)
        self.assertEqual([live.step(), live.step(), live.queue], [3, 5, CALM])

    def test_step_by_the_table(self):
        live = LiveQueue(LINE)
        for _, queue, mover, _ in TABLE:
            self.assertEqual([live.queue, live.front, live.step()], [queue, mover, mover])

    def test_step_against_simulation(self):
        for queue in [(7,), tuple(range(40)), tuple(range(40, 0, -1))] + plain.some_queues(40, 191):
            for gap in GAPS:
                live = LiveQueue(queue, gap=gap)
                for before, after in zip(plain.plain_history(queue, 30, gap), plain.plain_history(queue, 30, gap)[1:]):
                    self.assertEqual([live.queue, live.step(), live.queue], [before, before[0], after])

    def test_steps_example(self):
        live = LiveQueue.of(3, 5, 2, 4)
        self.assertIsNone(live.steps(10 ** 9))
        self.assertEqual(live.queue, (5, 2, 3, 4))

    def test_steps_against_simulation(self):
        for queue in [(7,), tuple(range(40)), plain.slowest(40)] + plain.some_queues(8, 192, 5, 40):
            for gap in GAPS:
                history = plain.plain_history(queue, 2000, gap)
                for count in (1, 2, 17, 400, 401, 2000):
                    live = LiveQueue(queue, gap=gap)
                    self.assertIsNone(live.steps(count))
                    later = history[count]
                    self.assertEqual(state(live), (later, gap, later[0], len(queue), [("steps", count)]))

    def test_far_steps(self):
        for queue in plain.all_queues(4) + plain.some_queues(20, 193, 1, 8):
            for count in (2001, 10 ** 9, FAR - 1, FAR):
                live = LiveQueue(queue)
                live.steps(count)
                self.assertEqual(live.queue, plain.plain_far(queue, count))

    def test_far_steps_of_38_to_40_persons(self):
        for queue in plain.some_settled(40, 194)[-3:]:
            live = LiveQueue(queue)
            for many in range(1, 4):
                live.steps(FAR)
                right = (plain.plain_number(queue) - many * FAR) % 2 ** (len(queue) - 1)
                self.assertEqual([plain.plain_number(live.queue), plain.plain_unsettled(live.queue)], [right, []])

    def test_range_of_steps(self):
        for gap in GAPS:
            beyond = FAR + 1 if gap == 1 else 2001
            live = LiveQueue(LINE, gap=gap)
            for count in plain.wrong_integers(1, beyond - 1) + [beyond, 0]:
                with self.assertRaises(NoSteps):
                    live.steps(count)
            self.assertEqual(state(live), (LINE, gap, 3, 4, []))
            live.steps(beyond - 1)
            self.assertEqual(live.log(), [("steps", beyond - 1)])


class PersonsTest(unittest.TestCase):
    def test_join_example(self):
        live = LiveQueue.of(3, 5, 2, 4)
        self.assertIsNone(live.join(1))
        self.assertEqual(live.queue, LINE + (1,))

    def test_join_up_to_40(self):
        live = LiveQueue((0,), gap=2)
        heights = [FAR, -FAR] + list(range(1, 38))
        for many, height in enumerate(heights, start=2):
            live.join(height)
            self.assertEqual(len(live), many)
        self.assertEqual(live.queue, (0, FAR, -FAR) + tuple(range(1, 38)))
        before = state(live)
        for height in (38, -1, FAR - 1):
            with self.assertRaises(Full):
                live.join(height)
        # Of two errors the first one in the list is raised.
        for height in (5, FAR, FAR + 1, True, None, "38"):
            with self.assertRaises(NoPerson):
                live.join(height)
        self.assertEqual(state(live), before)
        live.leave(5)
        live.join(38)
        self.assertEqual([live.queue[-1], len(live)], [38, 40])

    def test_join_wrong_persons(self):
        live = LiveQueue((0, 1, 5))
        for person in plain.ODD_VALUES + [0, 1, 5, FAR + 1, -FAR - 1, 10 ** 36, -10 ** 36]:
            with self.assertRaises(NoPerson):
                live.join(person)
        self.assertEqual(state(live), ((0, 1, 5), 1, 0, 3, []))

    def test_leave_example(self):
        live = LiveQueue.of(3, 5, 2, 4)
        self.assertIsNone(live.leave(5))
        self.assertEqual(live.queue, (3, 2, 4))

    def test_leave_from_each_place(self):
        for queue in plain.high_queues(40, 195)[1:]:
            for at in {0, 1, len(queue) // 2, len(queue) - 1}:
                live = LiveQueue(queue)
                live.leave(queue[at])
                self.assertEqual(state(live)[::4], (queue[:at] + queue[at + 1:], [("leave", queue[at])]))

    def test_last_person_may_not_leave(self):
        live = LiveQueue((3, 7), gap=5)
        live.leave(3)
        for person in [7, 3, True, None, (7,), 10 ** 36]:
            with self.assertRaises(NoPerson):
                live.leave(person)
        self.assertEqual(state(live), ((7,), 5, 7, 1, [("leave", 3)]))
        live.join(3)
        live.leave(7)
        self.assertEqual(live.queue, (3,))

    def test_leave_wrong_persons(self):
        live = LiveQueue((0, 1, 5))
        for person in plain.wrong_persons((0, 1, 5)):
            with self.assertRaises(NoPerson):
                live.leave(person)
        self.assertEqual(state(live), ((0, 1, 5), 1, 0, 3, []))

    def test_new_persons_step_by_the_rule(self):
        live = LiveQueue(LINE)
        live.join(9)
        self.assertEqual([live.step() for _ in range(20)], plain.plain_movers(LINE + (9,), 20))


class UndoTest(unittest.TestCase):
    def test_example(self):
        live = LiveQueue.of(3, 5, 2, 4)
        self.assertEqual([live.step(), live.undo(), live.queue], [3, None, LINE])

    def test_each_operation(self):
        for gap in GAPS:
            live = LiveQueue(LINE, gap=gap)
            for operation in [live.step, lambda: live.steps(7), lambda: live.join(1), lambda: live.leave(5)]:
                operation()
                self.assertEqual(len(live.log()), 1)
                self.assertIsNone(live.undo())
                self.assertEqual(state(live), (LINE, gap, 3, 4, []))

    def test_down_to_nothing_and_once_more(self):
        live = LiveQueue(LINE)
        before = []
        for height in range(10, 30):
            before.append(state(live))
            live.join(height)
        for earlier in before[::-1]:
            live.undo()
            self.assertEqual(state(live), earlier)
        for _ in range(3):
            with self.assertRaises(Nothing):
                live.undo()
            self.assertEqual(state(live), (LINE, 1, 3, 4, []))
        live.step()
        live.undo()
        with self.assertRaises(Nothing):
            live.undo()

    def test_undo_far_steps(self):
        live = LiveQueue(plain.slowest(40))
        live.steps(FAR)
        live.steps(FAR)
        live.undo()
        live.undo()
        self.assertEqual(live.queue, plain.slowest(40))

    def test_undone_operations_do_not_come_back(self):
        live = LiveQueue(LINE)
        live.join(9)
        live.undo()
        live.step()
        self.assertEqual([live.log(), live.queue], [[("step",)], (5, 3, 2, 4)])
        live.undo()
        self.assertEqual([live.log(), live.queue], [[], LINE])


class LogTest(unittest.TestCase):
    def test_example(self):
        live = LiveQueue.of(3, 5, 2, 4)
        live.step()
        live.join(1)
        self.assertEqual(live.log(), [("step",), ("join", 1)])

    def test_each_operation(self):
        live = LiveQueue(LINE)
        live.leave(2)
        live.steps(FAR)
        live.step()
        live.steps(1)
        live.join(-FAR)
        live.step()
        live.undo()
        right = [("leave", 2), ("steps", FAR), ("step",), ("steps", 1), ("join", -FAR)]
        self.assertEqual(live.log(), right)
        self.assertEqual([type(operation) for operation in live.log()], [tuple] * 5)

    def test_list_is_new(self):
        live = LiveQueue(LINE)
        live.log().append(("step",))
        self.assertEqual(live.log(), [])
        live.step()
        live.log().clear()
        self.assertEqual(live.log(), [("step",)])
        live.undo()
        self.assertEqual([live.log(), live.queue], [[], LINE])


class PreviewTest(unittest.TestCase):
    def check(self, live, *operations):
        """Return the preview, or the kind of its error; nothing may change."""
        before = state(live)
        given = repr(operations)
        try:
            return live.preview(*operations)
        except (NoOperation, NoSteps, NoPerson, Full) as error:
            return type(error)
        finally:
            self.assertEqual(state(live), before)
            self.assertEqual(repr(operations), given)

    def test_example(self):
        live = LiveQueue.of(3, 5, 2, 4)
        self.assertEqual([live.preview(("step",), ("leave", 5)), live.queue, live.log()], [(3, 2, 4), LINE, []])

    def test_no_operations(self):
        self.assertEqual(self.check(LiveQueue(LINE)), LINE)

    def test_each_operation(self):
        for gap in GAPS:
            live = LiveQueue(LINE, gap=gap)
            live.step()
            queue = live.queue
            history = plain.plain_history(queue, 2000, gap)
            self.assertEqual(self.check(live, ("step",)), history[1])
            self.assertEqual(self.check(live, ("steps", 2000)), history[2000])
            self.assertEqual(self.check(live, ("join", FAR)), queue + (FAR,))
            self.assertEqual(self.check(live, ("leave", 2)), tuple(one for one in queue if one != 2))
            self.assertEqual(self.check(live, *[("step",)] * 20), history[20])

    def test_one_after_the_other(self):
        live = LiveQueue(LINE)
        self.assertEqual(self.check(live, ("join", 9), ("leave", 9)), LINE)
        self.assertEqual(self.check(live, ("leave", 3), ("join", 3)), (5, 2, 4, 3))
        self.assertEqual(self.check(live, ("leave", 3), ("leave", 5), ("leave", 2), ("join", 1), ("leave", 4)), (1,))
        self.assertEqual(self.check(live, ("steps", FAR), ("step",)), plain.plain_far(LINE, FAR + 1))

    def test_values_of_a_log(self):
        live = LiveQueue(LINE, gap=2)
        for operation in [live.step, lambda: live.join(9), lambda: live.steps(5), lambda: live.leave(2)]:
            operation()
            self.assertEqual(self.check(LiveQueue(LINE, gap=2), *live.log()), live.queue)

    def test_no_operation(self):
        live = LiveQueue(LINE)
        live.step()
        for wrong in WRONG_OPERATIONS:
            with self.subTest(wrong=wrong):
                self.assertIs(self.check(live, wrong), NoOperation)
                self.assertIs(self.check(live, ("step",), wrong), NoOperation)
                # The forms of all operations are looked at before the first one is performed.
                self.assertIs(self.check(live, ("leave", 99), ("steps", None), wrong), NoOperation)

    def test_second_item_is_looked_at_when_its_turn_comes(self):
        for value in [None, True, "1", 0, -1, [1], (1,), {}, object()]:
            live = LiveQueue(LINE)
            errors = [self.check(live, (word, value)) for word in ("steps", "leave")]
            self.assertEqual(errors, [NoSteps, NoPerson])
            if value not in (0, -1):
                self.assertIs(self.check(live, ("join", value)), NoPerson)
            self.assertIs(self.check(live, ("step",), ("steps", value), ("leave", 99)), NoSteps)
            self.assertIs(self.check(live, ("step",), ("leave", 99), ("steps", value)), NoPerson)

    def test_errors_of_operations(self):
        live = LiveQueue(LINE)
        self.assertIs(self.check(live, ("join", 3)), NoPerson)
        self.assertIs(self.check(live, ("leave", 3), ("leave", 3)), NoPerson)
        self.assertIs(self.check(live, ("leave", 3), ("leave", 5), ("leave", 2), ("leave", 4)), NoPerson)
        self.assertIs(self.check(live, ("steps", FAR + 1), ("join", 3)), NoSteps)
        self.assertIs(self.check(LiveQueue(LINE, gap=2), ("steps", 2001)), NoSteps)
        full = LiveQueue(tuple(range(39)))
        self.assertIs(self.check(full, ("join", 50), ("join", 51), ("steps", 0)), Full)
        self.assertIs(self.check(full, ("join", 50), ("join", 50)), NoPerson)

    def test_operations_go_on_behind_a_preview(self):
        live = LiveQueue(LINE)
        live.step()
        self.check(live, ("step",), ("join", 1))
        self.check(live, ("step",), ("join", 3))
        self.assertEqual([live.step(), live.log()], [5, [("step",), ("step",)]])
        live.undo()
        live.undo()
        self.assertEqual(live.queue, LINE)


class EqualityTest(unittest.TestCase):
    def test_example(self):
        self.assertEqual([LiveQueue.of(2, 1) == LiveQueue((2, 1)), LiveQueue.of(2, 1) == LiveQueue((2, 1), gap=2)],
                         [True, False])

    def test_queues_and_gaps_decide(self):
        self.assertTrue(LiveQueue(LINE, gap=10 ** 31) == LiveQueue(LINE, gap=10 ** 31))
        self.assertFalse(LiveQueue(LINE) != LiveQueue(LINE))
        self.assertTrue(LiveQueue(LINE) != LiveQueue(CALM))
        self.assertFalse(LiveQueue(LINE) == LiveQueue(LINE[:3]))
        # Both change places in each step, with either gap.
        self.assertFalse(LiveQueue((2, 1), gap=2) == LiveQueue((2, 1), gap=3))

    def test_log_does_not_matter(self):
        live = LiveQueue(LINE)
        live.steps(2)
        self.assertTrue(live == LiveQueue(CALM))
        live.undo()
        self.assertTrue(live == LiveQueue(LINE))

    def test_other_values(self):
        live = LiveQueue((2, 1))
        for other in [(2, 1), [2, 1], None, 2, True, "2 1", LiveQueue, object(), ((2, 1), 1), {}]:
            self.assertIs(live == other, False)
            self.assertIs(other == live, False)
            self.assertIs(live != other, True)

    def test_length(self):
        for queue in plain.some_queues(40, 196):
            self.assertEqual(len(LiveQueue(queue)), len(queue))


class Model:
    """A live queue by the words of the document: it keeps its first queue and performs all again after an undo."""

    def __init__(self, queue, gap):
        self.first, self.queue, self.gap, self.operations = queue, queue, gap, []

    def perform(self, operation):
        word = operation[0]
        self.operations.append(operation)
        if word == "join":
            self.queue += operation[1:]
        elif word == "leave":
            self.queue = tuple(one for one in self.queue if one != operation[1])
        else:
            self.queue = plain.plain_history(self.queue, (operation + (1,))[1], self.gap)[-1]

    def undo(self):
        operations = self.operations[:-1]
        self.queue, self.operations = self.first, []
        for operation in operations:
            self.perform(operation)


def perform(live, operation):
    """Perform an operation of a log by its method."""
    word, *rest = operation
    return getattr(live, word)(*rest)


class ManyOperationsTest(unittest.TestCase):
    def some_operation(self, model, dice):
        word = dice.choice(["step", "step", "steps", "join", "leave", "undo"])
        if word == "steps":
            return word, dice.randint(1, 30)
        if word == "join" and len(model.queue) < 40:
            return word, dice.choice([height for height in range(-30, 30) if height not in model.queue])
        if word == "leave" and len(model.queue) > 1:
            return word, dice.choice(model.queue)
        return ("undo",) if word == "undo" and model.operations else ("step",)

    def test_200_operations(self):
        dice = random.Random(197)
        for size, gap in [(1, 1), (4, 1), (7, 2), (20, 3), (40, 1), (39, 10 ** 31)]:
            queue = tuple(dice.sample(range(-30, 30), size))
            live, model = LiveQueue(queue, gap=gap), Model(queue, gap)
            for _ in range(200):
                operation = self.some_operation(model, dice)
                front = live.front
                result = perform(live, operation)
                self.assertEqual(result, front if operation == ("step",) else None)
                if operation == ("undo",):
                    model.undo()
                else:
                    model.perform(operation)
                self.assertEqual(state(live), (model.queue, gap, model.queue[0], len(model.queue), model.operations))

    def test_200_times_the_same_operation(self):
        for gap in GAPS:
            live = LiveQueue(tuple(range(40)), gap=gap)
            right = plain.plain_history(live.queue, 100, gap)
            self.assertEqual([live.step() for _ in range(100)], [queue[0] for queue in right[:100]])
            self.assertEqual(live.log(), [("step",)] * 100)
            for earlier in right[:100][::-1]:
                live.undo()
                self.assertEqual(live.queue, earlier)
            with self.assertRaises(Nothing):
                live.undo()

    def test_refused_operations_change_nothing(self):
        live = LiveQueue(tuple(range(40)), gap=2)
        live.steps(5)
        before = state(live)
        refused = [
            (("steps", 0), NoSteps), (("steps", 2001), NoSteps), (("steps", True), NoSteps), (("join", 40), Full),
            (("join", 3), NoPerson), (("join", None), NoPerson),
            (("leave", 40), NoPerson), (("leave", False), NoPerson),
            (("preview", ("join", 40)), Full), (("preview", ("step",), ("leave", 40)), NoPerson),
            (("preview", ("step",), "step"), NoOperation),
        ]
        for _ in range(40):
            for operation, error in refused:
                with self.assertRaises(error) as caught:
                    perform(live, operation)
                self.assertIs(type(caught.exception), error)
                self.assertEqual(state(live), before)
        live.undo()
        self.assertEqual(state(live), (tuple(range(40)), 2, 0, 40, []))

    def test_two_live_queues_do_not_touch_each_other(self):
        for one, two in [(LiveQueue(LINE), LiveQueue(LINE)), (LiveQueue.of(*LINE), LiveQueue(LINE, gap=2)),
                         (LiveQueue.settled(LINE, 6), LiveQueue.settled(LINE, 6))]:
            before = state(two)
            one.join(9)
            one.steps(3)
            one.leave(5)
            self.assertEqual(state(two), before)
            with self.assertRaises(Nothing):
                two.undo()
            two.step()
            self.assertEqual([len(one.log()), two.log()], [3, [("step",)]])
            one.undo()
            self.assertEqual(two.log(), [("step",)])


if __name__ == "__main__":
    unittest.main()

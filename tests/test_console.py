"""Section 14: the console."""

import inspect
import random
import unittest

from tallerfirst.console import Console
from tallerfirst.errors import Full, NoLine, NoPerson, NoSteps, NoText, NotSettled, Nothing
from tests import plain
from tests.plain import FAR, LINE, TABLE

# A line of each form that needs a live queue, with its answer for the queue of the examples.
ANSWERS = {
    "step": "3", "steps 2": "ok", "join 1": "ok", "leave 5": "ok", "show": "3 5 2 4", "phase": "0", "settle": "2",
    "after 3": "2 4 3 5", "mover 4": "2", "first 4": "5", "moves 2 10": "4",
}
# These are refused by that queue.
REFUSED = {"undo": Nothing, "number": NotSettled}
FORMS = list(ANSWERS) + list(REFUSED)

WRONG_COUNTS = [
    "-1", "-0", "+1", "01", "00", "007", "1.0", "1e3", "a", "N", "1_000", "0x1", "9" * 32, "0" * 31 + "1",
    "1" + "0" * 31, "9" * 4000, "9" * 4900, "\u0663", "\u00b2", "-", "--1", "1-", "1,", "one",
]
WRONG_HEIGHTS = [
    "-0", "+1", "--1", "-", "1-", "01", "-01", "00", "-00", "1.0", "1e3", "a", "H", "1_000", "9" * 32, "-" + "9" * 32,
    "0" * 31 + "1", "1" + "0" * 31, "9" * 4000, "-" + "9" * 4900, "\u0663", "-\u00b2", "\u22123",
]


def console_with(queue):
    console = Console()
    if console.say("queue " + " ".join(str(person) for person in queue)) != "ok":
        raise AssertionError("the queue was not taken")
    return console


def state(console):
    """What the lines that change nothing answer."""
    return [console.say(line) for line in ("show", "settle", "phase", "after 7", "mover 9")]


class ConsoleTest(unittest.TestCase):
    def check(self, console, line, error):
        """The line raises the error and changes nothing."""
        before = state(console)
        with self.subTest(line=line):
            with self.assertRaises(error) as caught:
                console.say(line)
            self.assertIs(type(caught.exception), error)
            self.assertEqual(state(console), before)

    def check_all(self, lines, error, queue=LINE):
        console = console_with(queue)
        for line in lines:
            self.check(console, line, error)


class FormsTest(ConsoleTest):
    def test_example(self):
        console = Console()
        self.assertEqual(console.say("queue 3 5 2 4"), "ok")
        self.assertEqual([console.say(line) for line in ["settle", "mover 4", "steps 2", "show", "number"]],
                         ["2", "2", "ok", "3 2 4 5", "6"])

    def test_interface(self):
        self.assertEqual(str(inspect.signature(vars(Console)["say"])), "(self, line)")
        self.assertEqual(str(inspect.signature(Console)), "()")
        self.assertEqual(Console.__module__, "tallerfirst.console")

    def test_each_form(self):
        for line, answer in ANSWERS.items():
            found = console_with(LINE).say(line)
            self.assertEqual(found, answer, line)
            self.assertIs(type(found), str)
        for line, error in REFUSED.items():
            self.check_all([line], error)
        self.assertEqual(console_with((3, 2, 4, 5)).say("number"), "6")

    def test_undo(self):
        for line in ("step", "steps 2", "steps " + str(FAR), "join 1", "leave 5"):
            console = console_with(LINE)
            before = state(console)
            console.say(line)
            self.assertNotEqual(console.say("show"), "3 5 2 4")
            self.assertEqual(console.say("undo"), "ok")
            self.assertEqual(state(console), before)
            self.check(console, "undo", Nothing)

    def test_table(self):
        console = console_with(LINE)
        for _, queue, mover, number in TABLE:
            self.assertEqual(console.say("show"), " ".join(str(person) for person in queue))
            if number is None:
                self.check(console, "number", NotSettled)
            else:
                self.assertEqual([console.say("number"), console.say("phase")], [str(number)] * 2)
            self.assertEqual(console.say("step"), str(mover))

    def test_from_now_on(self):
        console = console_with(LINE)
        console.say("steps 3")
        row = plain.plain_movers(LINE, 40)[3:]
        queues = plain.plain_history(LINE, 40)[3:]
        for steps in range(30):
            self.assertEqual(console.say(f"after {steps}"), " ".join(str(person) for person in queues[steps]))
            self.assertEqual(console.say(f"mover {steps + 1}"), str(row[steps]))
            for person in LINE:
                self.assertEqual(console.say(f"moves {person} {steps}"), str(row[:steps].count(person)))
                self.assertEqual(console.say(f"first {person}"), str(row.index(person) + 1))

    def test_one_person(self):
        console = console_with((-7,))
        lines = ["step", "steps " + str(FAR), "show", "number", "phase", "settle", "after 5", "mover 5", "first -7",
                 "moves -7 5", "undo", "join 0", "leave -7", "show"]
        self.assertEqual([console.say(line) for line in lines],
                         ["-7", "ok", "-7", "0", "0", "0", "-7", "-7", "1", "5", "ok", "ok", "ok", "0"])

    def test_40_persons(self):
        console = console_with(plain.slowest(40))
        self.assertEqual([console.say("settle"), console.say("step"), console.say("first 1")],
                         [str(2 ** 39 - 2), "2", str(2 ** 39 - 1)])
        self.check_all(["join 41", "join -1", "join " + str(FAR)], Full, plain.slowest(40))
        self.check_all(["join 40", "join 1", "join " + str(FAR + 1)], NoPerson, plain.slowest(40))

    def test_far_heights(self):
        console = console_with((FAR, -FAR))
        self.assertEqual(console.say("show"), f"{FAR} {-FAR}")
        self.assertEqual(console.say(f"first {-FAR}"), "2")
        self.assertEqual(console.say(f"moves {FAR} {FAR}"), str(FAR // 2))
        self.assertEqual([console.say("step"), console.say("step")], [str(FAR), str(-FAR)])
        self.assertEqual([console.say(f"leave {-FAR}"), console.say(f"join {-FAR}")], ["ok", "ok"])

    def test_far_steps(self):
        for queue in plain.some_queues(10, 210, 1, 7):
            console = console_with(queue)
            later = " ".join(str(person) for person in plain.plain_far(queue, FAR))
            self.assertEqual(console.say(f"after {FAR}"), later)
            self.assertEqual(console.say(f"mover {FAR}"), str(plain.plain_far(queue, FAR - 1)[0]))
            self.assertEqual([console.say(f"steps {FAR}"), console.say("show")], ["ok", later])

    def test_no_steps(self):
        console = console_with(LINE)
        self.assertEqual([console.say("after 0"), console.say("moves 3 0")], ["3 5 2 4", "0"])


class QueueLineTest(ConsoleTest):
    def test_texts(self):
        for queue in [(7,), (0,), (-7,), (FAR, -FAR), tuple(range(40))] + plain.high_queues(40, 211):
            text = " ".join(str(person) for person in queue)
            console = Console()
            self.assertEqual([console.say("queue " + text), console.say("show")], ["ok", text])

    def test_wrong_texts(self):
        texts = ["", " ", "  ", " 3 5", "3 5 ", "3  5", "  3", "3 5 3", "3 +5", "-0", "03", "3 a", "queue", "step",
                 "3,5", "3\t5", str(FAR + 1), "9" * 32, "9" * 4900, " ".join(str(height) for height in range(41))]
        self.check_all(["queue " + text for text in texts], NoText)

    def test_no_such_form(self):
        self.check_all(["queue", " queue 3", "  queue 3", "Queue 3", "QUEUE 3", "queue3", "queue\t3", "queues 3",
                        " queue", "queue\n3", "queue 3 5\n", "queue \n", "\nqueue 3", "queue 3\n5",
                        "queue  \n"], NoLine)

    def test_wrong_texts_before_there_is_a_queue(self):
        console = Console()
        for line, error in [("queue ", NoText), ("queue 3 3", NoText), ("queue", NoLine), ("queue 3\n", NoLine)]:
            with self.assertRaises(error):
                console.say(line)
            with self.assertRaises(NoLine):
                console.say("show")

    def test_second_queue_begins_anew(self):
        console = console_with(LINE)
        console.say("step")
        self.assertEqual([console.say("queue 7 1"), console.say("show")], ["ok", "7 1"])
        self.check(console, "undo", Nothing)

    def test_refused_text_keeps_the_queue_and_its_operations(self):
        console = console_with(LINE)
        console.say("step")
        self.check(console, "queue 3 3", NoText)
        self.assertEqual([console.say("undo"), console.say("show")], ["ok", "3 5 2 4"])


class WrongLinesTest(ConsoleTest):
    def test_before_there_is_a_queue(self):
        console = Console()
        # Whatever else is wrong with a line, there is no queue yet.
        for line in FORMS + ["steps 0", "after " + "9" * 31, "mover 0", "join " + "9" * 31, "leave 99", "moves 99 0"]:
            with self.subTest(line=line), self.assertRaises(NoLine) as caught:
                console.say(line)
            self.assertIs(type(caught.exception), NoLine)
        self.assertEqual([console.say("queue 3 5 2 4"), console.say("show")], ["ok", "3 5 2 4"])

    def test_too_few_and_too_many_words(self):
        for line in FORMS:
            words = line.split(" ")
            lines = [" ".join(words[:many]) for many in range(len(words))]
            more = ["3", "0", "-1", "x", "step", words[0]]
            lines += [line + " " + word for word in more] + [line + " 3 4", line * 2, "3 " + line]
            self.check_all(lines, NoLine)

    def test_other_spaces(self):
        for line in FORMS:
            places = [at for at, sign in enumerate(line) if sign == " "]
            lines = [" " + line, line + " ", "  " + line, line + "  ", " " + line + " ", "\t" + line, line + "\t"]
            lines += [line[:at] + " " + line[at:] for at in places]
            lines += [line[:at] + sign + line[at + 1:] for at in places for sign in ("\t", "", "   ", "_", ",")]
            self.check_all(lines, NoLine)

    def test_newlines(self):
        for line in FORMS + ["queue 3 5"]:
            inside = [line[:at] + "\n" + line[at:] for at in range(len(line) + 1)]
            between = [line[:at] + "\n" + line[at + 1:] for at, sign in enumerate(line) if sign == " "]
            self.check_all(inside + between + [line + "\n" + line, line + "\r\n"], NoLine)

    def test_other_words(self):
        lines = ["", " ", "  ", "\n", "Step", "STEP", "stepp", "ste", "help", "log", "preview", "3", "3 5 2 4", "-",
                 "front", "gap", "len", "step 1", "steps", "stepsteps", "show number", "say step", "__init__", "_step",
                 "H", "N"]
        self.check_all(lines, NoLine)

    def test_wrong_counts(self):
        for word in WRONG_COUNTS:
            self.check_all([f"steps {word}", f"after {word}", f"mover {word}", f"moves 3 {word}"], NoLine)

    def test_wrong_heights(self):
        for word in WRONG_HEIGHTS:
            self.check_all([f"join {word}", f"leave {word}", f"first {word}", f"moves {word} 4"], NoLine)

    def test_counts_out_of_range(self):
        for count in (FAR + 1, 10 * FAR - 1):
            lines = [f"steps {count}", f"after {count}", f"mover {count}", f"moves 3 {count}"]
            self.check_all(lines + ["steps 0", "mover 0"], NoSteps)

    def test_heights_that_are_not_there(self):
        for height in (6, 0, -3, FAR, -FAR, FAR + 1, -FAR - 1, 10 * FAR - 1, 1 - 10 * FAR):
            self.check_all([f"leave {height}", f"first {height}", f"moves {height} 4", f"moves {height} 0"], NoPerson)
            # Of two errors the first one in the list is raised.
            self.check_all([f"moves {height} {FAR + 1}"], NoPerson)
        for height in (3, 4, FAR + 1, -FAR - 1, 10 * FAR - 1):
            self.check_all([f"join {height}"], NoPerson)

    def test_last_person_may_not_leave(self):
        self.check_all(["leave 7", "leave 8"], NoPerson, (7,))

    def test_values_that_are_no_strings(self):
        values = [value for value in plain.wrong_queues() if not isinstance(value, str)]
        self.check_all(values + [b"step", b"queue 3", ["step"], ("step",), ["queue", "3"], LINE, Console, 1], NoLine)
        for value in values:
            with self.assertRaises(NoLine):
                Console().say(value)


class ManyLinesTest(ConsoleTest):
    def test_200_lines_against_simulation(self):
        dice = random.Random(212)
        for queue in plain.some_queues(6, 213, 1, 40):
            console = console_with(queue)
            past = []
            for _ in range(200):
                line, later, answer = self.some_line(queue, past, dice)
                self.assertEqual(console.say(line), answer, line)
                past = past[:-1] if line == "undo" else past + [queue]
                queue = later
                self.assertEqual(console.say("show"), " ".join(str(person) for person in queue))

    def some_line(self, queue, past, dice):
        """A line, the queue after it and its answer."""
        word = dice.choice(["step", "steps", "join", "leave", "undo"])
        if word == "undo" and past:
            return word, past[-1], "ok"
        if word == "join" and len(queue) < 40:
            person = dice.choice([height for height in range(-61, 61) if height not in queue])
            return f"join {person}", queue + (person,), "ok"
        if word == "leave" and len(queue) > 1:
            person = dice.choice(queue)
            return f"leave {person}", tuple(other for other in queue if other != person), "ok"
        if word == "steps":
            count = dice.randint(1, 30)
            return f"steps {count}", plain.plain_history(queue, count)[-1], "ok"
        return "step", plain.plain_step(queue), str(queue[0])

    def test_two_consoles_do_not_touch_each_other(self):
        one, two = console_with(LINE), Console()
        with self.assertRaises(NoLine):
            two.say("show")
        two.say("queue 3 5 2 4")
        before = state(two)
        for line in ("join 9", "steps 3", "leave 5", "queue 7", "join 1"):
            one.say(line)
            self.assertEqual(state(two), before)
        self.check(two, "undo", Nothing)
        self.assertEqual([two.say("step"), one.say("undo")], ["3", "ok"])
        self.assertEqual([one.say("show"), two.say("show")], ["7", "5 3 2 4"])


if __name__ == "__main__":
    unittest.main()

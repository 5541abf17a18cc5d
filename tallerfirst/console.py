"""The console: lines of text that create, change and question a live queue."""

from tallerfirst.errors import NoLine
from tallerfirst.far import mover_at, queue_after
from tallerfirst.live import LiveQueue
from tallerfirst.phases import phase
from tallerfirst.settled import number_of
from tallerfirst.texts import is_count, is_number, read_queue, show_queue
from tallerfirst.times import first_move, moves_of, settling_time


def _step(live):
    return str(live.step())


def _steps(live, count):
    live.steps(count)
    return "ok"


def _join(live, person):
    live.join(person)
    return "ok"


def _leave(live, person):
    live.leave(person)
    return "ok"


def _undo(live):
    live.undo()
    return "ok"


def _show(live):
    return show_queue(live.queue)


def _number(live):
    return str(number_of(live.queue))


def _phase(live):
    return str(phase(live.queue))


def _settle(live):
    return str(settling_time(live.queue))


def _after(live, steps):
    return show_queue(queue_after(live.queue, steps))


def _mover(live, step):
    return str(mover_at(live.queue, step))


def _first(live, person):
    return str(first_move(live.queue, person))


def _moves(live, person, steps):
    return str(moves_of(live.queue, person, steps))


# What stands behind the first word of a line: H for a height, N for a count.
_FORMS = {
    "step": "", "steps": "N", "join": "H", "leave": "H", "undo": "", "show": "", "number": "", "phase": "",
    "settle": "", "after": "N", "mover": "N", "first": "H", "moves": "HN",
}

_ANSWERS = {
    "step": _step, "steps": _steps, "join": _join, "leave": _leave, "undo": _undo, "show": _show, "number": _number,
    "phase": _phase, "settle": _settle, "after": _after, "mover": _mover, "first": _first, "moves": _moves,
}


class Console:
    """A console that holds a live queue, at first none."""

    def __init__(self):
        self._live = None

    def say(self, line):
        """Execute a line and return its answer."""
        if not isinstance(line, str) or "\n" in line:
            raise NoLine("a line is a string without a newline")
        word, space, text = line.partition(" ")
        if word == "queue" and space:
            self._live = LiveQueue(read_queue(text))
            return "ok"
        return self._answer(line.split(" "))

    def _answer(self, words):
        """Return the answer to a line of these words, which needs the live queue."""
        word, *numbers = words
        if not _has_form(word, numbers):
            raise NoLine("the line has none of the forms")
        if self._live is None:
            raise NoLine("there is no live queue yet")
        answer = _ANSWERS[word]
        values = [int(number) for number in numbers]
        return answer(self._live, *values)


def _has_form(word, numbers):
    """Tell whether these words may stand behind this first one."""
    if word not in _FORMS or len(numbers) != len(_FORMS[word]):
        return False
    return all([is_number(number) if kind == "H" else is_count(number) for kind, number in zip(_FORMS[word], numbers)])

"""Live queues: they change by operations, which can be undone and tried."""

from tallerfirst.checks import MOST_FAR_STEPS, MOST_STEPS
from tallerfirst.checks import check_gap, check_person, check_queue, check_steps, is_height
from tallerfirst.errors import Full, NoOperation, NoPerson, Nothing
from tallerfirst.queues import ran, stepped
from tallerfirst.settled import settled_queue


class LiveQueue:
    """A queue with a gap that keeps its operations."""

    LIMIT = 40

    def __init__(self, queue, *, gap=1):
        check_queue(queue)
        check_gap(gap)
        self._queue = queue
        self._gap = gap
        self._operations = []
        # The queue before each of the operations.
        self._earlier = []

    @classmethod
    def of(cls, *heights):
        """Create a live queue of these heights."""
        return cls(heights)

    @classmethod
    def settled(cls, persons, number):
        """Create a live queue that begins as the settled queue with this number."""
        return cls(settled_queue(persons, number))

    @property
    def queue(self):
        """The present queue."""
        return self._queue

    @property
    def gap(self):
        """The gap."""
        return self._gap

    @property
    def front(self):
        """The first person."""
        return self._queue[0]

    def step(self):
        """Perform a step and return the person who moves."""
        mover = self._queue[0]
        self._perform(("step",))
        return mover

    def steps(self, count):
        """Perform this number of steps."""
        self._perform(("steps", count))

    def join(self, person):
        """Put a new person at the end."""
        self._perform(("join", person))

    def leave(self, person):
        """Take a person out."""
        self._perform(("leave", person))

    def undo(self):
        """Revert the last operation that is not undone."""
        if not self._operations:
            raise Nothing("there is nothing to undo")
        self._operations.pop()
        self._queue = self._earlier.pop()

    def log(self):
        """Return the list of the operations that are not undone."""
        return list(self._operations)

    def preview(self, *operations):
        """Return the queue after these operations, without performing them here."""
        for operation in operations:
            _check_operation(operation)
        queue = self._queue
        for operation in operations:
            queue = _changed(queue, self._gap, operation)
        return queue

    def __len__(self):
        return len(self._queue)

    def __eq__(self, other):
        if not isinstance(other, LiveQueue):
            return False
        return self._queue == other._queue and self._gap == other._gap

    def _perform(self, operation):
        """Perform an operation and log it, or raise its error."""
        queue = _changed(self._queue, self._gap, operation)
        self._earlier.append(self._queue)
        self._operations.append(operation)
        self._queue = queue


def _check_operation(value):
    """Raise NoOperation unless the value is a tuple that has the form of an operation."""
    if isinstance(value, tuple) and value and isinstance(value[0], str):
        if len(value) == 1 and value[0] == "step":
            return
        if len(value) == 2 and value[0] in ("steps", "join", "leave"):
            return
    raise NoOperation("this is not an operation as it is written in a log")


def _changed(queue, gap, operation):
    """Return the queue after an operation, or raise the operation's error."""
    if operation[0] == "step":
        return stepped(queue, gap)
    if operation[0] == "steps":
        return _moved_on(queue, gap, operation[1])
    if operation[0] == "join":
        return _joined(queue, operation[1])
    return _left(queue, operation[1])


def _moved_on(queue, gap, count):
    """Return the queue after this number of steps."""
    check_steps(count, MOST_FAR_STEPS if gap == 1 else MOST_STEPS, least=1)
    return ran(queue, count, gap)


def _joined(queue, person):
    """Return the queue with a new person at the end."""
    if not is_height(person) or person in queue:
        raise NoPerson("this is not a person who can join the queue")
    if len(queue) == LiveQueue.LIMIT:
        raise Full(f"there are {LiveQueue.LIMIT} persons in the queue")
    return queue + (person,)


def _left(queue, person):
    """Return the queue without the person."""
    check_person(queue, person)
    if len(queue) == 1:
        raise NoPerson("the only person of the queue may not leave")
    return tuple([other for other in queue if other != person])

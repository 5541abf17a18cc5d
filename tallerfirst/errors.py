"""The errors of the package."""


class QueueError(ValueError):
    """Any error that the package raises."""


class NoQueue(QueueError):
    """A value is not a queue."""


class NoPerson(QueueError):
    """A value is not a person that can be named here."""


class NoGap(QueueError):
    """A value is not a gap."""


class NoSteps(QueueError):
    """A value is not a number of steps in the allowed range."""


class NoNumber(QueueError):
    """A value is not a number in the allowed range."""


class NotSettled(QueueError):
    """A queue is not settled."""


class NotAlike(QueueError):
    """Two queues do not have the same persons."""


class NoRow(QueueError):
    """A value is not a row of movers."""


class NotFitting(QueueError):
    """No queue fits a row."""


class TooMany(QueueError):
    """There are too many persons; `persons` is their number."""

    def __init__(self, persons):
        super().__init__(f"{persons} persons are too many")
        self.persons = persons


class NoOperation(QueueError):
    """A value is not an operation on a live queue."""


class Full(QueueError):
    """A live queue has no room for one more person."""


class Nothing(QueueError):
    """There is nothing to undo."""


class NoText(QueueError):
    """A value is not the text of a queue."""


class NoLine(QueueError):
    """A value is not a line that the console can execute now."""

"""The texts of queues and of numbers."""

from tallerfirst.checks import check_queue, has_different_heights
from tallerfirst.errors import NoText

MOST_DIGITS = 31


def show_queue(queue):
    """Return the text of the queue."""
    check_queue(queue)
    return " ".join([str(person) for person in queue])


def read_queue(text):
    """Return the queue with this text."""
    if isinstance(text, str):
        words = text.split(" ")
        if all([is_number(word) for word in words]):
            queue = tuple([int(word) for word in words])
            if has_different_heights(queue):
                return queue
    raise NoText("this is not the text of a queue")


def is_number(word):
    """Tell whether the word is a number of 1 to 31 digits, with `-` before a negative one."""
    if word.startswith("-"):
        return word != "-0" and is_count(word[1:])
    return is_count(word)


def is_count(word):
    """Tell whether the word is a number of 1 to 31 digits without a sign."""
    # Python has other digits than ASCII's, and refuses to read numbers of thousands of digits.
    if not word.isascii() or not word.isdigit() or len(word) > MOST_DIGITS:
        return False
    return word == "0" or not word.startswith("0")

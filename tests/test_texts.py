"""Section 13 and point [12]: the text of a queue."""

import unittest

from tallerfirst.errors import NoQueue, NoText
from tallerfirst.texts import read_queue, show_queue
from tests import plain
from tests.plain import FAR, LINE

TEXTS = [
    ("7", (7,)), ("0", (0,)), ("-7", (-7,)), ("3 -5 2", (3, -5, 2)), ("-3 3 0", (-3, 3, 0)), ("10 100 1", (10, 100, 1)),
    ("1" + 30 * "0", (FAR,)), ("-1" + 30 * "0", (-FAR,)), ("-1" + 30 * "0" + " 1" + 30 * "0", (-FAR, FAR)),
    (" ".join(str(height) for height in range(40)), tuple(range(40))),
]

# Numbers that are not written as the document says, or are no heights.
WRONG_WORDS = [
    "+3", "-0", "+0", "--3", "-", "- 3", "3-", "03", "00", "-03", "000", "3.0", "3.", ".3", "1e3", "0x3", "1_000", "3L",
    "a", "three", "None", "True", "3,", ",", "(3", "3)", "[3]", "'3'", "1/2", "3+4", "2**3",
    str(FAR + 1), str(-FAR - 1), 31 * "9", 32 * "9", "-" + 32 * "9", "9" * 4000, "9" * 5000, "-" + "9" * 4999,
    "0" * 5000, "\u0663", "\u00b2", "\uff13", "\u2212" + "3", "3\u00a0",
]

SPACES = [" 3 5", "3 5 ", "3  5", "  3 5", "3 5  ", " ", "  ", "3 ", " 3", "3   5", "- 3 5", "3 - 5", " 3 5 "]
LINES = ["3\n5", "3 5\n", "\n3 5", "\n", "3\n", "3 \n5", "3\t5", "3\r5", "3 5\r\n", "3\x0b5", "3\x0c"]


class ShowQueueTest(unittest.TestCase):
    def test_example(self):
        self.assertEqual(show_queue((3, -5, 2)), "3 -5 2")

    def test_texts(self):
        for text, queue in TEXTS:
            self.assertEqual(show_queue(queue), text)

    def test_longest_text(self):
        text = show_queue(tuple(at - FAR for at in range(39)) + (-1,))
        # One height of 31 digits, 38 of 30 digits and -1, each with a sign, and 39 spaces.
        self.assertEqual([len(text), text.count(" ")], [32 + 38 * 31 + 2 + 39, 39])
        self.assertEqual(text[:34], "-1" + 30 * "0" + " -")

    def test_no_queue(self):
        for queue in plain.wrong_queues():
            with self.assertRaises(NoQueue):
                show_queue(queue)


class ReadQueueTest(unittest.TestCase):
    def check(self, *texts):
        for text in texts:
            with self.subTest(text=text), self.assertRaises(NoText) as caught:
                read_queue(text)
            self.assertIs(type(caught.exception), NoText)

    def test_example(self):
        self.check("3 5 3")

    def test_texts(self):
        for text, queue in TEXTS:
            found = read_queue(text)
            self.assertEqual(found, queue)
            self.assertIs(type(found), tuple)
            self.assertEqual([type(person) for person in found], [int] * len(queue))

    def test_there_and_back(self):
        for queue in plain.some_queues(80, 200) + plain.high_queues(40, 201):
            text = show_queue(queue)
            self.assertEqual(text.split(" "), [str(person) for person in queue])
            self.assertEqual(read_queue(text), queue)

    def test_empty_text(self):
        self.check("")

    def test_wrong_words(self):
        for word in WRONG_WORDS:
            self.check(word, "3 " + word, word + " 3", "3 " + word + " 5")

    def test_spaces(self):
        self.check(*SPACES, " " * 5000)
        for at in range(len("3 -5 2") + 1):
            # One more space makes another text of a queue nowhere.
            self.check("3 -5 2"[:at] + " " + "3 -5 2"[at:])

    def test_space_in_a_long_number_makes_two_numbers(self):
        self.assertEqual([read_queue("357"), read_queue("3 57"), read_queue("35 7")], [(357,), (3, 57), (35, 7)])

    def test_other_white_space(self):
        self.check(*LINES)

    def test_same_persons_twice(self):
        self.check("3 3", "0 0", "3 5 2 4 3", "-1 1 -1", " ".join(["1", "2"] * 20))

    def test_numbers_of_persons(self):
        heights = [str(height) for height in range(60)]
        for many in (1, 2, 39, 40):
            self.assertEqual(read_queue(" ".join(heights[:many])), tuple(range(many)))
        self.check(*[" ".join(heights[:many]) for many in (41, 42, 60)])
        self.check(" ".join(heights[:39] + ["38"]), " ".join(str(height) for height in range(1500)))

    def test_edges_of_heights(self):
        for height in (FAR, FAR - 1, -FAR, 1 - FAR):
            self.assertEqual(read_queue(f"5 {height}"), (5, height))
        for height in (FAR + 1, -FAR - 1, 10 * FAR, 10 ** 36, -10 ** 36):
            self.check(str(height), f"5 {height}", f"{height} 5")

    def test_values_that_are_no_texts(self):
        self.check(*[value for value in plain.wrong_queues() if value not in ("3", "3 5 2 4")])
        self.check(LINE, list(LINE), ("3 5",), ["3 5"], b"3 5", 3, ["3", "5"], {"3 5": 1}, str, True, None)


if __name__ == "__main__":
    unittest.main()

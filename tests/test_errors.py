"""Point [13]: the errors."""

import unittest

from tallerfirst import errors

SUBCLASSES = [
    "NoQueue", "NoPerson", "NoGap", "NoSteps", "NoNumber", "NotSettled", "NotAlike", "NoRow", "NotFitting",
    "TooMany", "NoOperation", "Full", "Nothing", "NoText", "NoLine",
]


class ErrorsTest(unittest.TestCase):
    def test_base_is_a_value_error(self):
        self.assertEqual(errors.QueueError.__bases__, (ValueError,))
        self.assertEqual(str(errors.QueueError("wrong")), "wrong")

    def test_subclasses_are_direct(self):
        for name in SUBCLASSES:
            with self.subTest(name):
                self.assertEqual(getattr(errors, name).__bases__, (errors.QueueError,))

    def test_there_are_no_other_subclasses(self):
        found = sorted(kind.__name__ for kind in errors.QueueError.__subclasses__())
        self.assertEqual(found, sorted(SUBCLASSES))

    def test_classes_are_defined_in_the_file(self):
        for name in SUBCLASSES + ["QueueError"]:
            with self.subTest(name):
                self.assertEqual(getattr(errors, name).__module__, "tallerfirst.errors")
                self.assertEqual(getattr(errors, name).__name__, name)

    def test_they_take_a_message(self):
        for name in SUBCLASSES:
            if name != "TooMany":
                with self.subTest(name):
                    error = getattr(errors, name)("a message")
                    self.assertEqual(str(error), "a message")
                    self.assertFalse(hasattr(error, "persons"))

    def test_too_many_has_the_number_of_persons(self):
        for persons in (8, 40, 0):
            with self.subTest(persons):
                self.assertEqual(errors.TooMany(persons).persons, persons)

    def test_objects_of_too_many_are_apart(self):
        few, many = errors.TooMany(8), errors.TooMany(40)
        self.assertEqual([few.persons, many.persons], [8, 40])
        with self.assertRaises(errors.QueueError) as caught:
            raise few
        self.assertEqual(caught.exception.persons, 8)


if __name__ == "__main__":
    unittest.main()

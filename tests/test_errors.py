"""The refusals and their fields."""

import copy
import unittest

from figurejudge.errors import JudgeError, NoRow, NoSaying, NoText, TooMany

MADE = ((NoRow, ("AB",)), (NoSaying, ((0, 1, 0),)), (TooMany, ((1,),)), (NoText, ()))


class ErrorsTest(unittest.TestCase):
    def test_judge_error_is_a_value_error(self):
        self.assertTrue(issubclass(JudgeError, ValueError))
        self.assertEqual(JudgeError.__bases__, (ValueError,))

    def test_each_is_beneath_judge_error_and_beneath_no_other(self):
        for kind, given in MADE:
            error = kind(*given)
            self.assertIsInstance(error, JudgeError)
            self.assertIsInstance(error, ValueError)
            for other, ignored in MADE:
                self.assertEqual(isinstance(error, other), other is kind, (kind, other))

    def test_fields(self):
        self.assertEqual(NoRow("AB").name, "AB")
        self.assertEqual(NoRow(name="Z").name, "Z")
        for kind in (NoSaying, TooMany):
            self.assertEqual(kind((0, 1, 0)).place, (0, 1, 0))
            self.assertEqual(kind(()).place, ())
            self.assertEqual(kind(place=(1,)).place, (1,))

    def test_fields_belong_to_their_object(self):
        one, other = NoRow("A"), NoRow("B")
        self.assertEqual((one.name, other.name), ("A", "B"))
        left, right = NoSaying((0,)), NoSaying((1,))
        self.assertEqual((left.place, right.place), ((0,), (1,)))

    def test_made_with_what_is_told_and_nothing_else(self):
        for kind, given in MADE:
            with self.assertRaises(TypeError):
                kind(*given, "more")
            if given:
                with self.assertRaises(TypeError):
                    kind()

    def test_raised_and_taken(self):
        for kind, given in MADE:
            for taken in (kind, JudgeError, ValueError):
                with self.assertRaises(taken):
                    raise kind(*given)

    def test_a_copy_keeps_the_field(self):
        for kind, given in MADE:
            error = copy.copy(kind(*given))
            self.assertIs(error.__class__, kind)
            self.assertEqual(vars(error), vars(kind(*given)))


if __name__ == "__main__":
    unittest.main()

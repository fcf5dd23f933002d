import unittest

from joincrew.errors import CrewError, NoText, NoTick


class Errors(unittest.TestCase):
    def test_every_refusal_is_a_wrong_value(self):
        self.assertTrue(issubclass(CrewError, ValueError))
        self.assertIsNot(CrewError, ValueError)

    def test_each_refusal_stands_below_the_common_one(self):
        for refusal in (NoText, NoTick):
            self.assertTrue(issubclass(refusal, CrewError))
            self.assertIsNot(refusal, CrewError)

    def test_neither_stands_below_the_other(self):
        self.assertFalse(issubclass(NoText, NoTick))
        self.assertFalse(issubclass(NoTick, NoText))

    def test_they_can_be_raised_and_taken_by_their_names(self):
        for refusal in (CrewError, NoText, NoTick):
            with self.assertRaises(refusal):
                raise refusal("some words")


if __name__ == "__main__":
    unittest.main()

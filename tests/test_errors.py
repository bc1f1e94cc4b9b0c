"""The interface: errors.py."""

import unittest

from tailyard.errors import NoMachine, NoPack, TailError


class Errors(unittest.TestCase):
    def test_tail_error_is_a_value_error(self):
        self.assertTrue(issubclass(TailError, ValueError))

    def test_refusals_stand_below_tail_error(self):
        for refusal in (NoPack, NoMachine):
            self.assertTrue(issubclass(refusal, TailError))
            self.assertIsNot(refusal, TailError)

    def test_neither_stands_below_the_other(self):
        self.assertFalse(issubclass(NoPack, NoMachine))
        self.assertFalse(issubclass(NoMachine, NoPack))

    def test_each_is_raised_with_and_without_words(self):
        for refusal in (TailError, NoPack, NoMachine):
            with self.assertRaises(refusal):
                raise refusal("no")
            with self.assertRaises(TailError):
                raise refusal()


if __name__ == "__main__":
    unittest.main()

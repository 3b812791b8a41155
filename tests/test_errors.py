"""The refusals, as the interface lists them."""

import unittest

from rowscribe.errors import BadBegins, BadCount, BadRow, BadWords, ScribeError
from rowscribe.machine import run
from rowscribe.writing import written


class Errors(unittest.TestCase):
    def test_all_are_refusals(self):
        self.assertTrue(issubclass(ScribeError, ValueError))
        for kind in (BadRow, BadWords, BadBegins, BadCount):
            with self.subTest(kind=kind.__name__):
                self.assertEqual(kind.__bases__, (ScribeError,))

    def test_values_are_set(self):
        with self.assertRaises(BadRow) as caught:
            written("stop\nhalt")
        self.assertEqual((caught.exception.row, caught.exception.why), (1, "form"))
        with self.assertRaises(BadWords) as caught:
            run([0, 0, 256], 0, 0)
        self.assertEqual(caught.exception.number, 2)
        with self.assertRaises(BadBegins) as caught:
            run([0, 0], 256, 0)
        self.assertEqual(caught.exception.number, 0)
        with self.assertRaises(BadCount):
            run([0, 0], 0, 1001)


if __name__ == "__main__":
    unittest.main()

"""The refusals of the interface: what stands under what."""

import unittest

from bitferry.errors import FerryError, NoDeed, NoLine, NoOrder, NoWay

REFUSALS = (NoDeed, NoWay, NoOrder, NoLine)


class Errors(unittest.TestCase):
    def test_any_refusal_is_straight_under_value_error(self):
        self.assertEqual(FerryError.__bases__, (ValueError,))

    def test_each_is_straight_under_ferry_error(self):
        for refusal in REFUSALS:
            self.assertEqual(refusal.__bases__, (FerryError,))

    def test_none_is_under_another(self):
        for one in REFUSALS:
            for other in REFUSALS:
                self.assertEqual(issubclass(one, other), one == other)

    def test_names(self):
        self.assertEqual([refusal.__name__ for refusal in REFUSALS], ["NoDeed", "NoWay", "NoOrder", "NoLine"])


if __name__ == "__main__":
    unittest.main()

"""The classes of the refusals ([3], and what the interface lists)."""

import inspect
import unittest

from movedminutes import errors

PLAIN = [
    "NoHall", "NoDay", "NoCustomer", "NoCounter", "NoNumber", "NoTotals", "NoMany", "NoCustomers",
    "NoTowers", "NoRoom", "NoMove", "Unlike", "NoWay", "NoRoad", "NoText",
]


class TestErrors(unittest.TestCase):
    def test_hall_error_stands_under_value_error(self):
        self.assertEqual(errors.HallError.__bases__, (ValueError,))
        self.assertIsInstance(errors.HallError(), ValueError)

    def test_each_stands_straight_under_hall_error(self):
        for name in PLAIN + ["TooMany"]:
            with self.subTest(name):
                self.assertEqual(getattr(errors, name).__bases__, (errors.HallError,))

    def test_none_stands_under_another(self):
        for name in PLAIN + ["TooMany"]:
            for other in PLAIN + ["TooMany"]:
                if name != other:
                    self.assertFalse(issubclass(getattr(errors, name), getattr(errors, other)))

    def test_each_is_made_as_the_interface_writes_it(self):
        for name in PLAIN:
            with self.subTest(name):
                made = getattr(errors, name)()
                self.assertIsInstance(made, errors.HallError)
                self.assertIsInstance(made, ValueError)
                with self.assertRaises(errors.HallError):
                    raise made

    def test_too_many_keeps_many(self):
        for many in (1001, 0, 10 ** 40):
            self.assertEqual(errors.TooMany(many).many, many)
            self.assertEqual(errors.TooMany(many=many).many, many)
            with self.assertRaises(ValueError):
                raise errors.TooMany(many)

    def test_too_many_is_not_made_of_nothing(self):
        with self.assertRaises(TypeError):
            errors.TooMany()

    def test_all_are_defined_here_and_no_more(self):
        told = [name for name, _ in inspect.getmembers(errors, inspect.isclass)]
        self.assertEqual(sorted(told), sorted(PLAIN + ["TooMany", "HallError"]))
        for name in told:
            self.assertEqual(getattr(errors, name).__module__, "movedminutes.errors")


if __name__ == "__main__":
    unittest.main()

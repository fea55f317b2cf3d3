"""The refusals: what each stands under, and its field."""

import unittest

from crosswright import errors
from crosswright.errors import CrossError

FIELDS = {
    "NoSheet": "line",
    "NoFloor": "cell",
    "NoWord": "word",
    "Twice": "word",
    "NotThere": "word",
    "NoLine": "line",
    "NotFilled": None,
    "NoMatch": None,
    "NoWorking": None,
    "NoStep": "step",
    "NoName": "name",
    "NoDeed": None,
}


def made(name, value):
    kind = getattr(errors, name)
    return kind() if FIELDS[name] is None else kind(value)


class Errors(unittest.TestCase):
    def test_any_refusal_is_a_value_error(self):
        self.assertTrue(issubclass(CrossError, ValueError))

    def test_each_is_a_cross_error_and_none_of_the_others(self):
        for name in FIELDS:
            error = made(name, 0)
            self.assertIsInstance(error, CrossError)
            self.assertIsInstance(error, ValueError)
            for other in FIELDS:
                with self.subTest(name=name, other=other):
                    self.assertEqual(isinstance(error, getattr(errors, other)), name == other)

    def test_each_is_taken_by_its_own_name_and_as_any_refusal(self):
        for name in FIELDS:
            for kind in (getattr(errors, name), CrossError, ValueError):
                with self.subTest(name=name, kind=kind), self.assertRaises(kind):
                    raise made(name, 0)

    def test_each_has_its_field_and_no_other(self):
        for name, field in FIELDS.items():
            with self.subTest(name=name):
                self.assertEqual(vars(made(name, 7)), {} if field is None else {field: 7})

    def test_a_field_is_the_very_thing_that_was_handed_in(self):
        deep = []
        for _ in range(100000):
            deep = [deep]
        # Things that can't all be written out: a refusal must not try to.
        for thing in (None, True, 1.5, "", "A", ("word", "ab"), [1], {"a": 1}, 10 ** 5000, deep):
            for name, field in FIELDS.items():
                if field is not None:
                    error = made(name, thing)
                    self.assertIs(getattr(error, field), thing)
                    self.assertIsInstance(str(error), str)
        while deep:
            deep = deep.pop()


if __name__ == "__main__":
    unittest.main()

"""The refusals: each a LoomError, none under another one."""

import unittest

from mothloom import errors

REFUSALS = [
    "NoRest", "TooLarge", "NoLoom", "NoRibbon", "NoHole", "Taken", "Over", "NoDeed", "NoPage", "NoPaper",
]


class RefusalsTest(unittest.TestCase):
    def classes(self):
        return [getattr(errors, name) for name in REFUSALS]

    def test_loom_error_is_a_value_error(self):
        self.assertTrue(issubclass(errors.LoomError, ValueError))

    def test_each_refusal_is_a_loom_error_of_its_own(self):
        for refusal in self.classes():
            with self.subTest(refusal.__name__):
                self.assertTrue(issubclass(refusal, errors.LoomError))
                self.assertTrue(issubclass(refusal, ValueError))
                self.assertIsNot(refusal, errors.LoomError)

    def test_none_is_under_another_one(self):
        for refusal in self.classes():
            over = [other.__name__ for other in self.classes() if issubclass(refusal, other)]
            with self.subTest(refusal.__name__):
                self.assertEqual(over, [refusal.__name__])

    def test_each_is_taken_by_its_name_and_as_a_loom_error(self):
        for refusal in self.classes():
            with self.subTest(refusal.__name__):
                with self.assertRaises(refusal):
                    raise refusal("words")
                with self.assertRaises(errors.LoomError):
                    raise refusal("words")
                for other in self.classes():
                    if other is not refusal:
                        self.assertNotIsInstance(refusal("words"), other)


if __name__ == "__main__":
    unittest.main()

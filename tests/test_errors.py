"""[0.3] How the refusals stand to one another."""

import unittest

from cellpatches import errors

NAMES = ["NoBoard", "NoWays", "NoCell", "NoLetter", "NoNumber", "NoFit", "Nothing", "NoText"]


class TestErrors(unittest.TestCase):
    def test_patch_error_is_a_value_error(self):
        self.assertTrue(issubclass(errors.PatchError, ValueError))
        self.assertIsNot(errors.PatchError, ValueError)

    def test_each_refusal_stands_under_patch_error(self):
        for name in NAMES:
            with self.subTest(name):
                refusal = getattr(errors, name)
                self.assertTrue(issubclass(refusal, errors.PatchError))
                self.assertTrue(issubclass(refusal, ValueError))
                self.assertIsNot(refusal, errors.PatchError)

    def test_none_stands_under_another(self):
        for name in NAMES:
            for other in NAMES:
                if name != other:
                    with self.subTest(name=name, other=other):
                        self.assertFalse(issubclass(getattr(errors, name), getattr(errors, other)))

    def test_each_is_caught_by_all_its_names(self):
        for name in NAMES:
            refusal = getattr(errors, name)
            for caught in (refusal, errors.PatchError, ValueError):
                with self.assertRaises(caught):
                    raise refusal("refused")


if __name__ == "__main__":
    unittest.main()

import unittest

from fewstones.errors import NoDeed, NoLaying, NoLoad, NoPlan, NoText, StoneError

REFUSALS = (NoLaying, NoLoad, NoPlan, NoText, NoDeed)


class Errors(unittest.TestCase):
    def test_any_refusal_is_a_value_error(self):
        self.assertTrue(issubclass(StoneError, ValueError))
        self.assertIsNot(StoneError, ValueError)

    def test_each_is_a_stone_error_and_a_value_error(self):
        for refusal in REFUSALS:
            with self.subTest(refusal=refusal.__name__):
                self.assertTrue(issubclass(refusal, StoneError))
                self.assertTrue(issubclass(refusal, ValueError))
                self.assertFalse(issubclass(StoneError, refusal))

    def test_none_stands_under_another(self):
        for place, one in enumerate(REFUSALS):
            for other in REFUSALS[:place] + REFUSALS[place + 1:]:
                with self.subTest(one=one.__name__, other=other.__name__):
                    self.assertFalse(issubclass(one, other))

    def test_names(self):
        self.assertEqual([refusal.__name__ for refusal in REFUSALS],
                         ["NoLaying", "NoLoad", "NoPlan", "NoText", "NoDeed"])

    def test_each_is_raised_and_taken(self):
        for refusal in REFUSALS:
            with self.subTest(refusal=refusal.__name__):
                with self.assertRaises(StoneError):
                    raise refusal("no")


if __name__ == "__main__":
    unittest.main()

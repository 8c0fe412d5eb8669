"""[2], the refusals."""

import unittest

from court.errors import CourtError, NoName, NoPlan, NoRow, NoText, TooMany

FIELDS = [(NoText, "row", 7), (TooMany, "most", 32), (NoPlan, "name", "logic"), (NoName, "name", "anna")]
REFUSALS = [NoText, TooMany, NoPlan, NoName, NoRow]


def made_refusals():
    return [made(value) for made, _, value in FIELDS] + [NoRow()]


class Refusals(unittest.TestCase):
    def test_court_error_is_a_value_error(self):
        self.assertTrue(issubclass(CourtError, ValueError))

    def test_each_stands_under_court_error_and_value_error(self):
        for refusal in REFUSALS:
            with self.subTest(refusal=refusal.__name__):
                self.assertTrue(issubclass(refusal, CourtError))
                self.assertTrue(issubclass(refusal, ValueError))
                self.assertIsNot(refusal, CourtError)

    def test_none_stands_under_another(self):
        for one in REFUSALS:
            for other in REFUSALS:
                if one is not other:
                    with self.subTest(one=one.__name__, other=other.__name__):
                        self.assertFalse(issubclass(one, other))

    def test_each_holds_its_field(self):
        for refusal, field, value in FIELDS:
            with self.subTest(refusal=refusal.__name__):
                self.assertEqual(getattr(refusal(value), field), value)

    def test_two_of_one_kind_hold_each_its_own(self):
        first = NoText(1)
        second = NoText(2)
        self.assertEqual((first.row, second.row), (1, 2))

    def test_each_with_a_field_takes_one_argument(self):
        for refusal, _, value in FIELDS:
            with self.subTest(refusal=refusal.__name__):
                with self.assertRaises(TypeError):
                    refusal()
                with self.assertRaises(TypeError):
                    refusal(value, value)

    def test_no_row_is_made_without_an_argument(self):
        self.assertIsInstance(NoRow(), NoRow)

    def test_raised_each_is_caught_by_court_error(self):
        for refusal in made_refusals():
            with self.subTest(refusal=type(refusal).__name__):
                try:
                    raise refusal
                except CourtError as caught:
                    self.assertIs(caught, refusal)

    def test_raised_each_is_not_caught_by_another(self):
        for refusal in made_refusals():
            others = tuple(other for other in REFUSALS if other is not type(refusal))
            with self.subTest(refusal=type(refusal).__name__):
                with self.assertRaises(type(refusal)):
                    try:
                        raise refusal
                    except others:
                        pass


if __name__ == "__main__":
    unittest.main()

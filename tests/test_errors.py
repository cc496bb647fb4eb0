"""The refusals."""

import unittest

from pinchfold import errors
from pinchfold.errors import BadText, OtherRow, PinchError

NAMES = """
    BadPlan BadFaces BadFace BadPlace BadWay NoPinch BadRow NoFold TooLong BadLie BadStep BadNumber BadName
    Taken NoPaper BadSlot BadColour BadLetter Unfolded Folded OtherRow Full BadDeed NoBack NoForth BadText
""".split()


class Refusals(unittest.TestCase):
    def test_there_are_twenty_six(self):
        self.assertEqual(len(set(NAMES)), 26)
        found = [name for name, value in vars(errors).items() if isinstance(value, type)]
        self.assertEqual(sorted(found), sorted(NAMES + ["PinchError"]))

    def test_any_refusal_is_a_value_error(self):
        self.assertEqual(PinchError.__bases__, (ValueError,))

    def test_each_stands_straight_under_pinch_error(self):
        for name in NAMES:
            with self.subTest(name):
                self.assertEqual(getattr(errors, name).__bases__, (PinchError,))
                self.assertEqual(getattr(errors, name).__name__, name)
                self.assertTrue(issubclass(getattr(errors, name), ValueError))

    def test_none_is_another(self):
        for name in NAMES:
            for other in NAMES:
                if name != other:
                    self.assertFalse(issubclass(getattr(errors, name), getattr(errors, other)), (name, other))

    def test_each_can_be_raised_and_caught(self):
        values = {"BadText": (4,), "OtherRow": ("rrr", "rll")}
        for name in NAMES:
            with self.subTest(name):
                with self.assertRaises(PinchError) as caught:
                    raise getattr(errors, name)(*values.get(name, ("why",)))
                self.assertEqual(type(caught.exception).__name__, name)

    def test_bad_text_keeps_at(self):
        for at in (0, 1, 17):
            self.assertEqual(BadText(at).at, at)

    def test_other_row_keeps_had_and_wanted(self):
        refusal = OtherRow("rrr", "rrlrll")
        self.assertEqual((refusal.had, refusal.wanted), ("rrr", "rrlrll"))

    def test_each_refusal_has_values_of_its_own(self):
        one, other = BadText(1), BadText(2)
        self.assertEqual((one.at, other.at), (1, 2))


if __name__ == "__main__":
    unittest.main()

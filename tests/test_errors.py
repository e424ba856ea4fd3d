import unittest

from sharings import errors

REFUSALS = ["NoThings", "NoSharing", "NoShares", "Unlike", "NotFiner", "NoThing", "NoNumber", "NoWay", "NotRead"]


class Errors(unittest.TestCase):
    def test_share_error_stands_straight_under_value_error(self):
        self.assertEqual(errors.ShareError.__bases__, (ValueError,))

    def test_each_refusal_stands_straight_under_share_error(self):
        for name in REFUSALS:
            with self.subTest(name):
                refusal = getattr(errors, name)
                self.assertEqual(refusal.__name__, name)
                self.assertEqual(refusal.__bases__, (errors.ShareError,))

    def test_no_two_refusals_are_one(self):
        self.assertEqual(len({getattr(errors, name) for name in REFUSALS}), 9)

    def test_each_refusal_is_taken_by_its_own_name_and_those_above(self):
        for name in REFUSALS:
            refusal = getattr(errors, name)
            for taken in (refusal, errors.ShareError, ValueError):
                with self.subTest(name=name, taken=taken):
                    with self.assertRaises(taken):
                        raise refusal("words")


if __name__ == "__main__":
    unittest.main()

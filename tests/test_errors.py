"""The refusals: point 2 and the interface's row `errors`."""

import inspect
import unittest

from vatmatch import errors

NAMES = (
    "NoNumber NoMany NoShade NoStuffs NoBook Fails NoHour NoName NoDeed NoBack NoShelf NoMeasures NoStep TooLittle"
    " NoWeights NoPrices NoVat NoBrim NoCloths NoRow"
).split()


def refusals():
    return [getattr(errors, name) for name in NAMES]


class Refusals(unittest.TestCase):
    def test_twenty_classes_stand_in_the_module(self):
        self.assertEqual(len(set(refusals())), 20)
        for name, refusal in zip(NAMES, refusals()):
            self.assertTrue(inspect.isclass(refusal))
            self.assertEqual((refusal.__name__, refusal.__module__), (name, "vatmatch.errors"))

    def test_each_is_a_dye_error_and_a_value_error(self):
        self.assertTrue(issubclass(errors.DyeError, ValueError))
        for refusal in refusals():
            self.assertTrue(issubclass(refusal, errors.DyeError), refusal)
            self.assertTrue(issubclass(refusal, ValueError), refusal)
            self.assertNotEqual(refusal, errors.DyeError)

    def test_none_stands_under_another_one(self):
        for one in refusals():
            for other in refusals():
                if one is not other:
                    self.assertFalse(issubclass(one, other), (one, other))

    def test_fails_carries_hour_and_word(self):
        for hour, word in ((0, "twice"), (17, "less"), (9999, "brim")):
            with self.assertRaises(errors.DyeError) as caught:
                raise errors.Fails(hour, word)
            self.assertEqual((caught.exception.hour, caught.exception.word), (hour, word))

    def test_the_others_are_raised_with_a_message(self):
        for refusal in refusals():
            if refusal is not errors.Fails:
                with self.assertRaises(refusal) as caught:
                    raise refusal("why")
                self.assertEqual(str(caught.exception), "why")


if __name__ == "__main__":
    unittest.main()

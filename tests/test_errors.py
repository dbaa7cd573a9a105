import unittest

from tally import errors

TEXT_MADE = ["NoThrow", "NoPins", "NoSide", "Over", "NoGame", "NoDeed", "TooMany", "NoLine"]
NUMBER_MADE = ["BadWord", "Falls"]


class ErrorClasses(unittest.TestCase):
    def test_the_base_stands_under_value_error(self):
        self.assertTrue(issubclass(errors.ScoreError, ValueError))

    def test_all_stand_under_the_base_and_none_under_another(self):
        for name in TEXT_MADE + NUMBER_MADE:
            refusal = getattr(errors, name)
            self.assertIsNot(refusal, errors.ScoreError)
            self.assertTrue(issubclass(refusal, errors.ScoreError), name)
            for other in TEXT_MADE + NUMBER_MADE:
                if other != name:
                    self.assertFalse(issubclass(refusal, getattr(errors, other)), (name, other))

    def test_each_name_is_a_class_of_its_own(self):
        classes = [getattr(errors, name) for name in ["ScoreError"] + TEXT_MADE + NUMBER_MADE]
        self.assertEqual(len(set(classes)), 11)
        for name, refusal in zip(["ScoreError"] + TEXT_MADE + NUMBER_MADE, classes):
            self.assertEqual(refusal.__name__, name)

    def test_the_base_and_most_are_made_of_any_text(self):
        for name in ["ScoreError"] + TEXT_MADE:
            refusal = getattr(errors, name)
            for text in ["", "no such thing", "x" * 2000]:
                with self.assertRaises(refusal) as caught:
                    raise refusal(text)
                self.assertIsInstance(caught.exception, errors.ScoreError)
                self.assertIsInstance(str(caught.exception), str)

    def test_bad_word_and_falls_keep_their_number(self):
        for name in NUMBER_MADE:
            refusal = getattr(errors, name)
            for at in [0, 1, 7, 400, 10 ** 59]:
                with self.assertRaises(refusal) as caught:
                    raise refusal(at)
                self.assertEqual(caught.exception.at, at)
                self.assertIs(type(caught.exception.at), int)
                self.assertIsInstance(str(caught.exception), str)

    def test_two_refusals_keep_apart(self):
        one = errors.BadWord(1)
        other = errors.BadWord(2)
        self.assertEqual((one.at, other.at), (1, 2))


if __name__ == "__main__":
    unittest.main()

import unittest

from gridmetric.errors import Fault, Malformed, NoText, Refused


class ErrorsTest(unittest.TestCase):
    def test_all_are_faults_and_value_errors(self):
        self.assertTrue(issubclass(Fault, ValueError))
        for kind in (Malformed, Refused, NoText):
            self.assertTrue(issubclass(kind, Fault))

    def test_no_one_is_a_subclass_of_another_one(self):
        kinds = (Malformed, Refused, NoText)
        for one in kinds:
            for two in kinds:
                self.assertEqual(issubclass(one, two), one is two)

    def test_the_reason_of_a_refusal(self):
        self.assertEqual(Refused("negative").reason, "negative")
        with self.assertRaises(Fault) as caught:
            raise Refused("large")
        self.assertEqual(caught.exception.reason, "large")

    def test_the_place_in_a_text(self):
        self.assertEqual(NoText(0).at, 0)
        with self.assertRaises(Fault) as caught:
            raise NoText(17)
        self.assertEqual(caught.exception.at, 17)

    def test_malformed_has_any_text(self):
        with self.assertRaises(Fault):
            raise Malformed("a text")


if __name__ == "__main__":
    unittest.main()

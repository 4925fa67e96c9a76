import unittest

from stepgrove import errors

REFUSALS = (
    "NoBottom", "NoTree", "NoChange", "NoStart", "NoTable", "NoName",
    "NoWeighing", "NotAlike", "NoParts", "TooMany", "NoText", "NoLine",
)


class RefusalClasses(unittest.TestCase):
    def test_grove_error_stands_straight_beneath_value_error(self):
        self.assertEqual(errors.GroveError.__bases__, (ValueError,))

    def test_each_refusal_stands_straight_beneath_grove_error_alone(self):
        for name in REFUSALS:
            with self.subTest(name):
                self.assertEqual(getattr(errors, name).__bases__, (errors.GroveError,))

    def test_each_refusal_has_a_class_of_its_own(self):
        classes = [getattr(errors, name) for name in REFUSALS]
        self.assertEqual(len(set(classes)), len(REFUSALS))
        self.assertEqual([kind.__name__ for kind in classes], list(REFUSALS))

    def test_refusals_have_no_fields(self):
        for name in REFUSALS:
            with self.subTest(name):
                self.assertEqual(vars(getattr(errors, name)("words")), {})


if __name__ == "__main__":
    unittest.main()

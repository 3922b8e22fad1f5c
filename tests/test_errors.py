import unittest

from lonewalks import errors

NAMES = ("BadNet", "BadWalk", "BadCompany", "NoNumber")


class ErrorClasses(unittest.TestCase):
    def test_walk_error_stands_under_value_error_alone(self):
        self.assertEqual(errors.WalkError.__bases__, (ValueError,))

    def test_each_refusal_stands_under_walk_error_alone(self):
        for name in NAMES:
            with self.subTest(name):
                self.assertEqual(getattr(errors, name).__bases__, (errors.WalkError,))

    def test_the_classes_bear_their_names_and_are_five(self):
        made = [getattr(errors, name) for name in NAMES + ("WalkError",)]
        self.assertEqual([made_one.__name__ for made_one in made], list(NAMES) + ["WalkError"])
        self.assertEqual(len(set(made)), 5)

    def test_one_refusal_is_not_taken_for_another(self):
        for name in NAMES:
            for other in NAMES:
                if name != other:
                    self.assertFalse(issubclass(getattr(errors, name), getattr(errors, other)))


if __name__ == "__main__":
    unittest.main()

import unittest

from cutyard import errors

WITH_AT = ("NoText", "NoName", "Twice", "TooGreat")
WITH_NOTHING = ("NoNumber", "NoRow", "NoChange", "BelowNought")


def made(name):
    cls = getattr(errors, name)
    return cls(7) if name in WITH_AT else cls()


class TreeTest(unittest.TestCase):
    def test_yard_error_stands_straight_under_value_error(self):
        self.assertEqual(errors.YardError.__bases__, (ValueError,))

    def test_each_refusal_stands_under_yard_error(self):
        for name in WITH_AT + WITH_NOTHING:
            with self.subTest(name):
                self.assertTrue(issubclass(getattr(errors, name), errors.YardError))
                self.assertTrue(issubclass(getattr(errors, name), ValueError))

    def test_no_refusal_stands_beneath_another(self):
        for name in WITH_AT + WITH_NOTHING:
            for other in WITH_AT + WITH_NOTHING:
                if name != other:
                    with self.subTest(f"{name} {other}"):
                        self.assertFalse(issubclass(getattr(errors, name), getattr(errors, other)))

    def test_there_are_no_other_refusals(self):
        found = {name for name, value in vars(errors).items() if isinstance(value, type)}
        self.assertEqual(found, {"YardError"} | set(WITH_AT) | set(WITH_NOTHING))


class MadeByHandTest(unittest.TestCase):
    def test_at_is_kept_as_a_field(self):
        for name in WITH_AT:
            for at in (1, 12, None):
                with self.subTest(f"{name} {at}"):
                    error = getattr(errors, name)(at)
                    self.assertEqual(vars(error), {"at": at})
                    self.assertEqual(type(error.at), type(at))

    def test_at_is_asked_for(self):
        for name in WITH_AT:
            with self.subTest(name):
                with self.assertRaises(TypeError):
                    getattr(errors, name)()

    def test_the_others_have_no_field(self):
        for name in WITH_NOTHING:
            with self.subTest(name):
                error = getattr(errors, name)()
                self.assertEqual(vars(error), {})
                self.assertFalse(hasattr(error, "at"))

    def test_each_is_raised_and_taken_by_its_own_class_and_by_those_above(self):
        for name in WITH_AT + WITH_NOTHING:
            for cls in (getattr(errors, name), errors.YardError, ValueError):
                with self.subTest(f"{name} {cls}"):
                    with self.assertRaises(cls):
                        raise made(name)

    def test_two_errors_have_nothing_in_common(self):
        one = errors.NoText(1)
        other = errors.NoText(2)
        self.assertEqual((one.at, other.at), (1, 2))


if __name__ == "__main__":
    unittest.main()

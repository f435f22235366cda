"""uprightletters.errors: each class, its base and its field."""

import unittest

from uprightletters import errors

FIELDS = (("BadTalk", "place"), ("BadDoing", "value"), ("BadNumber", "value"), ("BadRun", "place"),
          ("BadCut", "value"), ("BadText", "place"), ("Waits", "letter"), ("TooGreat", "most"))


class TestErrors(unittest.TestCase):

    def test_talk_error_is_a_value_error(self):
        self.assertEqual(errors.TalkError.__bases__, (ValueError,))

    def test_all_but_too_great_are_direct_subclasses(self):
        for name in ("BadTalk", "BadDoing", "BadNumber", "BadRun", "BadCut", "BadText", "Waits", "NothingLeft"):
            with self.subTest(name):
                self.assertEqual(getattr(errors, name).__bases__, (errors.TalkError,))

    def test_too_great_is_an_overflow_error(self):
        self.assertEqual(errors.TooGreat.__bases__, (OverflowError,))
        self.assertFalse(issubclass(errors.TooGreat, errors.TalkError))

    def test_field_by_position_and_by_name(self):
        values = (None, 0, -1, (2, 3), [1], "x")
        for name, field in FIELDS:
            for value in values:
                with self.subTest(name=name, value=value):
                    made = getattr(errors, name)
                    self.assertIs(getattr(made(value), field), value)
                    self.assertIs(getattr(made(**{field: value}), field), value)

    def test_the_field_is_wanted(self):
        for name, field in FIELDS:
            with self.subTest(name):
                with self.assertRaises(TypeError):
                    getattr(errors, name)()

    def test_field_is_on_the_object_that_is_caught(self):
        for name, field in FIELDS:
            value = [name]
            with self.subTest(name):
                with self.assertRaises(getattr(errors, name)) as caught:
                    raise getattr(errors, name)(value)
                self.assertIs(getattr(caught.exception, field), value)

    def test_nothing_left_is_made_without_a_field(self):
        self.assertIsInstance(errors.NothingLeft(), errors.TalkError)

    def test_each_is_defined_in_its_file(self):
        for name in ["TalkError", "NothingLeft"] + [name for name, field in FIELDS]:
            self.assertEqual(getattr(errors, name).__module__, "uprightletters.errors")


if __name__ == "__main__":
    unittest.main()

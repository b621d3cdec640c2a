"""[3] The error classes."""

import unittest

from steadymixes import errors

NAMES = """InvalidGame InvalidMix InvalidLot InvalidSide InvalidNumber InvalidLabel NotSteady HasTies
    InvalidChanges Tied InvalidTable InvalidPrizes Nothing Unreadable InvalidCommand NotReady""".split()


class ErrorClasses(unittest.TestCase):
    def test_the_first_one_is_directly_under_value_error(self):
        self.assertEqual(errors.MixError.__bases__, (ValueError,))

    def test_each_other_one_is_directly_under_the_first(self):
        for name in NAMES:
            with self.subTest(name):
                self.assertEqual(getattr(errors, name).__bases__, (errors.MixError,))

    def test_all_are_different_classes(self):
        self.assertEqual(len({getattr(errors, name) for name in NAMES}), 16)

    def test_each_bears_its_own_name_and_stands_in_the_module(self):
        for name in NAMES + ["MixError"]:
            told = getattr(errors, name)
            self.assertEqual((told.__name__, told.__module__), (name, "steadymixes.errors"))

    def test_each_keeps_the_very_value(self):
        for name in NAMES + ["MixError"]:
            for value in ([1, [2]], (1, [2]), {"a": []}, object(), None, True, 0, "text", ()):
                with self.subTest(name, value=value):
                    self.assertIs(getattr(errors, name)(value).value, value)
                    self.assertIs(getattr(errors, name)(value=value).value, value)

    def test_the_value_follows_what_its_owner_does_to_it(self):
        held = [1]
        error = errors.InvalidGame(held)
        held.append(2)
        self.assertEqual(error.value, [1, 2])

    def test_each_takes_one_argument_and_no_other(self):
        for name in NAMES + ["MixError"]:
            made = getattr(errors, name)
            with self.subTest(name):
                self.assertRaises(TypeError, made)
                self.assertRaises(TypeError, made, 1, 2)
                self.assertRaises(TypeError, made, 1, value=2)
                self.assertRaises(TypeError, made, other=2)

    def test_each_can_be_raised_and_caught(self):
        for name in NAMES:
            with self.subTest(name):
                with self.assertRaises(errors.MixError) as caught:
                    raise getattr(errors, name)((1, 2))
                self.assertEqual(caught.exception.value, (1, 2))
                self.assertIs(type(caught.exception), getattr(errors, name))

    def test_one_is_no_other(self):
        for name in NAMES:
            others = tuple(getattr(errors, told) for told in NAMES if told != name)
            self.assertNotIsInstance(getattr(errors, name)(0), others)


if __name__ == "__main__":
    unittest.main()

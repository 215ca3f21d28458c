"""Point 0.3 and the interface's row of errors."""

import copy
import pickle
import unittest

from pageloom import errors

REFUSALS = (
    "NoNumber", "NoProgram", "NoMatrix", "NoPath", "NoRule", "NoDeeds", "NoSize",
    "NoSteps", "NoPage", "NoText", "Busy", "Idle", "NoBack",
)


class Classes(unittest.TestCase):
    def test_page_error_is_a_value_error(self):
        self.assertEqual(errors.PageError.__bases__, (ValueError,))

    def test_each_refusal_stands_right_under_page_error(self):
        for name in REFUSALS:
            with self.subTest(name):
                self.assertEqual(getattr(errors, name).__bases__, (errors.PageError,))

    def test_there_are_no_others(self):
        found = {name for name, thing in vars(errors).items() if isinstance(thing, type)}
        self.assertEqual(found, set(REFUSALS) | {"PageError"})

    def test_none_is_taken_for_another(self):
        for name in REFUSALS:
            for other in REFUSALS:
                with self.subTest(name=name, other=other):
                    stands_under = issubclass(getattr(errors, name), getattr(errors, other))
                    self.assertEqual(stands_under, name == other)

    def test_each_can_be_raised_and_taken_as_page_error(self):
        for name in REFUSALS:
            with self.subTest(name):
                with self.assertRaises(errors.PageError) as caught:
                    raise getattr(errors, name)("words")
                self.assertEqual(str(caught.exception), "words")


class Fields(unittest.TestCase):
    def test_no_program_has_its_place(self):
        refusal = errors.NoProgram("words", 3, 14)
        self.assertEqual((refusal.row, refusal.column), (3, 14))

    def test_no_program_without_a_place(self):
        refusal = errors.NoProgram("words")
        self.assertEqual((refusal.row, refusal.column), (0, 0))

    def test_no_program_keeps_its_place_when_copied(self):
        refusal = errors.NoProgram("words", 3, 14)
        for again in (copy.copy(refusal), pickle.loads(pickle.dumps(refusal))):
            self.assertEqual((str(again), again.row, again.column), ("words", 3, 14))


if __name__ == "__main__":
    unittest.main()

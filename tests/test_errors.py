"""Points [5], [9] and the interface: the errors and their fields."""

import unittest

import ownharm
from ownharm import errors
from ownharm.errors import OwnharmError

WITH_MESSAGE = (
    "BadProgram BadRoom BadRoomNumber BadNumber BadSteps BadRow BadView BadFace BadSection BadBoard BadTree BadPlace "
    "BadNode BadTable BadLength BadEvent BadEntries BadInstruction BadAddress BadSections BadViews BadOrder BadRooms "
    "BadPrograms BadRows TooLong NotSmall BadWish BadLevels BadPlay OtherMake BadName NothingDone BadMoment"
).split()
WITH_VALUES = {
    "NoPart": ["part"], "NoRoom": ["name"], "BadText": ["line", "column"], "BadEvents": ["at"],
    "BadSectionText": ["line"], "TooLarge": ["room"], "BadChange": ["at"], "Unfit": ["room", "at"],
    "Parted": ["one", "other", "at"], "TooMany": ["most"], "Unexplained": ["at"], "Harmful": ["view"],
    "NotLaid": ["room"], "NotKept": ["name"],
}


class ErrorsTest(unittest.TestCase):
    def test_all_are_there_and_no_other_one(self):
        told = {name for name, value in vars(errors).items() if isinstance(value, type)}
        self.assertEqual(told, {"OwnharmError", *WITH_MESSAGE, *WITH_VALUES})

    def test_each_stands_directly_under_the_one(self):
        self.assertEqual(OwnharmError.__bases__, (ValueError,))
        for name in [*WITH_MESSAGE, *WITH_VALUES]:
            self.assertEqual(getattr(errors, name).__bases__, (OwnharmError,), name)

    def test_made_with_a_message(self):
        for name in ["OwnharmError", *WITH_MESSAGE]:
            error = getattr(errors, name)("what is wrong")
            self.assertEqual(str(error), "what is wrong")
            self.assertEqual(error.args, ("what is wrong",))
            self.assertEqual(vars(error), {})

    def test_made_with_values_of_any_kind(self):
        worths = [None, True, 3, "x", [1], {"a": (1,)}, 10 ** 99]
        for name, fields in WITH_VALUES.items():
            for begin in range(len(worths)):
                told = [worths[(begin + at) % len(worths)] for at in range(len(fields))]
                error = getattr(errors, name)(*told)
                self.assertEqual(vars(error), dict(zip(fields, told)), name)
                named = getattr(errors, name)(**dict(zip(fields, told)))
                self.assertEqual(vars(named), dict(zip(fields, told)), name)
                self.assertIsInstance(str(error), str)
            with self.assertRaises(TypeError):
                getattr(errors, name)()

    def test_the_package_itself_defines_nothing(self):
        import ast
        with open(ownharm.__file__, encoding="utf-8") as file:
            tree = ast.parse(file.read())
        self.assertTrue(all(isinstance(row, ast.Expr) and isinstance(row.value, ast.Constant) for row in tree.body))

    def test_errors_cannot_be_iterated_over(self):
        for name, fields in WITH_VALUES.items():
            with self.assertRaises(TypeError):
                iter(getattr(errors, name)(*fields))


if __name__ == "__main__":
    unittest.main()

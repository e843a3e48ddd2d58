"""The list of errors: their classes, bases, attributes and constructors."""

import inspect
import unittest

from loosebeats import errors

GROUPS = {
    "BeatError": (
        ValueError,
        {
            "InvalidIns": ["position"],
            "InvalidOuts": ["position"],
            "InvalidStandings": ["value"],
            "InvalidReactions": ["position"],
            "InvalidReaction": ["value"],
            "InvalidNames": ["value"],
            "InvalidNumber": ["value"],
            "InvalidStanding": ["value"],
            "InvalidStreams": ["value"],
            "InvalidRun": ["position"],
            "InvalidArrivals": ["position"],
            "InvalidRule": ["value"],
            "InvalidLine": ["value"],
            "InvalidLines": ["position"],
            "InvalidFlows": ["value"],
            "InvalidSizes": ["value"],
            "InvalidRooms": ["value"],
            "InvalidCount": ["value"],
            "InvalidCounts": ["value"],
            "InvalidText": ["line"],
            "InvalidClaim": ["value"],
            "InvalidCommand": ["value"],
        },
    ),
    "MissingError": (LookupError, {"NoSuch": ["value"]}),
    "StateError": (
        RuntimeError,
        {
            "SharedLine": ["value"],
            "OtherLines": ["one", "other"],
            "NotAgreeing": ["one", "other"],
            "NotReached": ["value"],
            "NotAlike": ["which"],
            "NotSmooth": [],
            "Noticed": ["value"],
            "NoStore": [],
            "CannotBeDone": ["value"],
            "NothingToUndo": [],
            "CommandFailed": ["position"],
        },
    ),
    "LimitError": (ArithmeticError, {"TooMany": ["what", "limit"]}),
}

ANY_VALUES = [None, True, -1, "x", [], {"a": [1]}, (1, 2), 10**40, object(), ValueError("x"), ValueError]


def listed():
    for group, (_, members) in GROUPS.items():
        for name, params in members.items():
            yield group, name, params


class Errors(unittest.TestCase):
    def test_groups_are_direct_subclasses_of_pythons_errors(self):
        for group, (base, _) in GROUPS.items():
            with self.subTest(group):
                self.assertEqual(getattr(errors, group).__bases__, (base,))

    def test_each_error_is_a_direct_subclass_of_its_group_and_no_other(self):
        for group, name, _ in listed():
            with self.subTest(name):
                self.assertEqual(getattr(errors, name).__bases__, (getattr(errors, group),))
                self.assertEqual(getattr(errors, name).__module__, "loosebeats.errors")

    def test_there_are_no_other_classes(self):
        classes = {name for name, value in vars(errors).items() if inspect.isclass(value)}
        self.assertEqual(classes, set(GROUPS) | {name for _, name, _ in listed()})

    def test_parameters_are_attributes_for_any_values(self):
        for _, name, params in listed():
            for value in ANY_VALUES:
                with self.subTest(name=name, value=value):
                    values = [value, "second"][: len(params)]
                    by_place = getattr(errors, name)(*values)
                    by_name = getattr(errors, name)(**dict(zip(params, values)))
                    for error in (by_place, by_name):
                        self.assertEqual([getattr(error, param) for param in params], values)

    def test_constructors_take_just_their_parameters(self):
        for _, name, params in listed():
            with self.subTest(name):
                self.assertEqual(list(inspect.signature(getattr(errors, name)).parameters), params)
                with self.assertRaises(TypeError):
                    getattr(errors, name)(*([0] * (len(params) + 1)))
                if params:
                    with self.assertRaises(TypeError):
                        getattr(errors, name)()

    def test_attributes_with_unlike_values_are_not_mixed_up(self):
        error = errors.OtherLines("x", "y")
        self.assertEqual([error.one, error.other], ["x", "y"])
        error = errors.NotAgreeing(other=1, one=2)
        self.assertEqual([error.one, error.other], [2, 1])
        error = errors.TooMany("ins", 4)
        self.assertEqual([error.what, error.limit], ["ins", 4])

    def test_they_can_be_raised_and_caught_by_group(self):
        for group, name, params in listed():
            with self.subTest(name):
                with self.assertRaises(getattr(errors, group)):
                    raise getattr(errors, name)(*([0] * len(params)))


if __name__ == "__main__":
    unittest.main()

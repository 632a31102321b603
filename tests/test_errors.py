"""Point 5: the classes of errors."""

import unittest

from fogfleet import errors
from fogfleet.errors import FleetError

PART_CLASSES = [
    "InvalidChart", "InvalidShip", "InvalidLight", "InvalidReport", "InvalidLetter",
    "InvalidSetting", "InvalidReceipt", "NotInPlay",
]
ATTRIBUTES = dict(
    [(name, ("part", "hour")) for name in PART_CLASSES],
    NoDriving=("ship", 1),
    NoSuchNumber=("number", 10 ** 39),
    DoesNotFit=("hour", 3),
    NoRun=("agent", "k3"),
    NoWorld=("agent", "s1"),
    NoWay=("leg", 0),
    InvalidOrder=("index", 4),
    InvalidStay=("index", 0),
    BadText=("line", 7),
    BadClaim=("word", 2),
    Contradiction=("numbers", [0, 3]),
    UnknownEntry=("number", -1),
)
PLAIN_CLASSES = ["NothingToUndo", "NothingToRedo"]


def own_errors():
    """All error classes that the module defines, by their names."""
    found = {}
    for name, value in vars(errors).items():
        if isinstance(value, type) and issubclass(value, BaseException):
            found[name] = value
    return found


class ErrorClassesTest(unittest.TestCase):
    def test_exactly_the_classes_of_the_interface_exist(self):
        names = list(ATTRIBUTES) + PLAIN_CLASSES + ["FleetError"]
        self.assertEqual(sorted(own_errors()), sorted(names))

    def test_the_base_class_is_a_value_error(self):
        self.assertEqual(FleetError.__bases__, (ValueError,))

    def test_all_others_stand_directly_below_the_base_class(self):
        for name, error_class in own_errors().items():
            if name != "FleetError":
                self.assertEqual(error_class.__bases__, (FleetError,), name)

    def test_an_error_is_an_instance_of_no_other_class_of_the_program(self):
        for name, (_, value) in ATTRIBUTES.items():
            error = own_errors()[name](value)
            kinds = [other for other, kind in own_errors().items() if isinstance(error, kind)]
            self.assertEqual(sorted(kinds), sorted([name, "FleetError"]))
            self.assertIsInstance(error, ValueError)

    def test_each_class_has_its_attribute(self):
        for name, (attribute, value) in ATTRIBUTES.items():
            error = own_errors()[name](value)
            self.assertEqual(getattr(error, attribute), value, name)
            self.assertEqual(vars(error), {attribute: value}, name)
            self.assertIsInstance(str(error), str)

    def test_nothing_to_undo_and_redo_have_no_attribute(self):
        for name in PLAIN_CLASSES:
            self.assertEqual(vars(own_errors()[name]("nothing")), {})

    def test_a_contradiction_keeps_a_list_of_its_own(self):
        numbers = [0, 3]
        error = errors.Contradiction(numbers)
        numbers.clear()
        self.assertEqual(error.numbers, [0, 3])
        self.assertIsInstance(errors.Contradiction((1,)).numbers, list)


if __name__ == "__main__":
    unittest.main()

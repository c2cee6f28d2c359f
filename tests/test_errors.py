import unittest

from laterways import errors
from laterways.errors import (
    BadDeed, BadName, BadNumber, BadPaper, BadRides, BadRing, BadRows, BadText, BadWay,
    CalendarError, NothingToUndo, NotKept, TooMany,
)

CASES = [
    (BadName, ("ann",), {"name": "ann"}),
    (BadNumber, ("opens", -1), {"what": "opens", "value": -1}),
    (BadRows, (3,), {"place": 3}),
    (BadWay, ("home", "office"), {"start": "home", "end": "office"}),
    (BadRing, (["one", "two"],), {"names": ["one", "two"]}),
    (BadPaper, (2, "link"), {"row": 2, "reason": "link"}),
    (BadRides, (1,), {"place": 1}),
    (BadText, (7,), {"line": 7}),
    (BadDeed, (0,), {"place": 0}),
    (TooMany, (200,), {"limit": 200}),
    (NotKept, (), {}),
    (NothingToUndo, (), {}),
]


class Point3Errors(unittest.TestCase):
    def test_base_class(self):
        self.assertEqual(CalendarError.__bases__, (ValueError,))

    def test_each_derives_directly_from_the_base(self):
        for kind, _, _ in CASES:
            self.assertEqual(kind.__bases__, (CalendarError,), kind)

    def test_all_errors_of_the_file_are_here(self):
        found = [x for x in vars(errors).values() if isinstance(x, type)]
        self.assertEqual(set(found), {CalendarError} | {kind for kind, _, _ in CASES})

    def test_attributes(self):
        for kind, values, attributes in CASES:
            self.assertEqual(vars(kind(*values)), attributes, kind)

    def test_raised_and_caught_as_itself_and_as_its_bases(self):
        for kind, values, attributes in CASES:
            for caught in (kind, CalendarError, ValueError):
                with self.assertRaises(caught) as held:
                    raise kind(*values)
                self.assertIs(held.exception.__class__, kind)
                self.assertEqual(vars(held.exception), attributes)

    def test_not_caught_as_one_of_the_others(self):
        for kind, values, _ in CASES:
            for other, _, _ in CASES:
                self.assertEqual(issubclass(kind, other), kind is other)

    def test_wrong_values_of_any_kind_are_kept(self):
        for value in (None, True, "", 1.5, 10 ** 5000, [1]):
            self.assertIs(BadName(value).name, value)
            self.assertIs(BadNumber("opens", value).value, value)

    def test_messages_can_be_read_for_great_numbers_too(self):
        self.assertIsInstance(str(BadNumber("opens", 10 ** 5000)), str)
        self.assertIsInstance(str(BadName(10 ** 5000)), str)

    def test_ring_has_a_list_of_its_own(self):
        names = ["one", "two"]
        error = BadRing(names)
        names.append("three")
        self.assertEqual(error.names, ["one", "two"])
        self.assertEqual(BadRing(("one", "two")).names, ["one", "two"])
        self.assertIsInstance(BadRing(("one", "two")).names, list)


if __name__ == "__main__":
    unittest.main()

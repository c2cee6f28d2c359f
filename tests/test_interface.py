"""The interface of the document: names, arguments and where they are defined."""

import importlib
import inspect
import unittest

FUNCTIONS = {
    "words": {
        "is_name": "(text)",
        "check_name": "(text)",
        "check_number": "(what, value, low, high)",
        "read_number": "(text)",
    },
    "slots": {
        "by_slots": "(length, minutes)",
        "ride": "(length, minutes, leaving)",
    },
    "earliest": {
        "earliest": "(day)",
        "late": "(day)",
        "can_be_kept": "(day)",
        "fault": "(day, starts)",
    },
    "chains": {
        "chain": "(day, name)",
        "check_chain": "(day, rows)",
    },
    "moves": {
        "latest_starts": "(day)",
        "moves": "(day, name)",
        "fixed": "(day, name, minute)",
        "moves_with": "(day, name, minute, other)",
        "meet_at": "(day, first, second)",
    },
    "slack": {
        "longer": "(day, n, *legs)",
        "slack": "(day, person, name)",
        "slacks": "(day)",
        "slack_of_all": "(day)",
        "spare": "(day, starts)",
    },
    "changes": {
        "changed": "(day, changes, chosen)",
        "worst": "(day, changes)",
        "safe": "(day, changes)",
        "lateness": "(day, changes)",
    },
    "tables": {
        "check_table": "(day, changes, table)",
        "check_changed_chain": "(day, changes, rows)",
        "worst_chain": "(day, changes, name)",
    },
    "sure": {
        "surely": "(day, changes, name)",
        "latest_under": "(day, changes)",
    },
    "told": {
        "check_plan": "(told, rows)",
        "plan_table": "(told)",
    },
    "errands": {
        "best_end": "(ways, place, minute, errands)",
        "latest_begin": "(ways, place, errands)",
    },
    "putting": {
        "with_meeting": "(day, ways, meeting, gaps)",
        "put_in": "(day, ways, meeting, *people)",
    },
    "whole": {
        "leaving": "(day, person, minute)",
        "start_map": "(day, person, name)",
        "end_map": "(day, person)",
        "never_later": "(first, second, person)",
        "same_ends": "(first, second, person)",
        "latest_leaving": "(day, person)",
    },
    "texts": {
        "read_rising": "(text)",
        "write_day": "(ways, day)",
        "read_day": "(text)",
    },
    "console": {
        "console": "(ways, day, lines)",
    },
}

CLASSES = {
    "errors": {
        "CalendarError": {},
        "BadName": {"__init__": "(self, name)"},
        "BadNumber": {"__init__": "(self, what, value)"},
        "BadRows": {"__init__": "(self, place)"},
        "BadWay": {"__init__": "(self, start, end)"},
        "BadRing": {"__init__": "(self, names)"},
        "BadPaper": {"__init__": "(self, row, reason)"},
        "BadRides": {"__init__": "(self, place)"},
        "BadText": {"__init__": "(self, line)"},
        "BadDeed": {"__init__": "(self, place)"},
        "TooMany": {"__init__": "(self, limit)"},
        "NotKept": {},
        "NothingToUndo": {},
    },
    "rising": {
        "Rising": {
            "__init__": "(self, rows)", "__call__": "(self, t)", "back": "(self, minute)",
            "levels": "(self, *, least=2)", "stay": "()", "steady": "(minutes)", "since": "(minute)",
            "__eq__": None, "__le__": None, "__or__": None, "__and__": None, "__rshift__": None, "__add__": None,
            "__radd__": None, "__len__": None, "__iter__": None, "__str__": None,
        },
    },
    "ways": {
        "Ways": {
            "__init__": "(self, *places)", "told": "(self, start, end)", "copy": "(self)",
            "__getitem__": None, "__setitem__": None, "__contains__": None, "__len__": None, "__eq__": None,
            "__le__": None, "__add__": None,
        },
    },
    "day": {
        "Meeting": {"__init__": "(self, name, place, opens, latest, length)", "__eq__": None},
        "Person": {"__init__": "(self, name, home, leaves, *meetings)", "__eq__": None},
        "Day": {
            "__init__": "(self, ways, meetings, people)", "leg_map": "(self, person, name)",
            "attendees": "(self, name)", "order": "(self)",
            "__getitem__": None, "__contains__": None, "__len__": None, "__eq__": None, "__add__": None,
        },
    },
    "changes": {
        "Changes": {"__init__": "(self, legs, lengths, most)"},
    },
    "told": {
        "Told": {
            "__init__": "(self, ways, stages)", "deadline": "(self, stage, place)",
            "keeps": "(self, stage, place, minute)", "wait_at": "(self, stage, place, minute)",
            "latest_telling": "(self, stage, place, minute)",
        },
    },
    "rides": {
        "Rides": {
            "__init__": "(self, *rows)", "at_least": "(self, minute)", "at_most": "(self, minute)", "low": "(self)",
            "fits": "(self, f)", "surely_late": "(self, left, minute)", "surely_in_time": "(self, left, minute)",
            "__contains__": None, "__add__": None,
        },
    },
    "calendar": {
        "Calendar": {
            "__init__": "(self, ways, day)", "load": "(self, day)", "move": "(self, name, minute)",
            "delay": "(self, person, name, n)", "lengthen": "(self, name, n)", "leave": "(self, person, minute)",
            "put": "(self, meeting, gaps)", "drop": "(self, name)", "undo": "(self)", "do_all": "(self, *deeds)",
        },
    },
}

STATIC = ("stay", "steady", "since")


class Interface(unittest.TestCase):
    def test_functions(self):
        for file, functions in FUNCTIONS.items():
            module = importlib.import_module("laterways." + file)
            for name, arguments in functions.items():
                function = getattr(module, name)
                self.assertEqual(function.__module__, module.__name__)
                self.assertEqual(str(inspect.signature(function)), arguments, name)

    def test_classes(self):
        for file, classes in CLASSES.items():
            module = importlib.import_module("laterways." + file)
            for name, methods in classes.items():
                kind = getattr(module, name)
                self.assertEqual(kind.__module__, module.__name__)
                for method, arguments in methods.items():
                    self.assertIn(method, vars(kind), name)
                    if method in STATIC:
                        self.assertIsInstance(vars(kind)[method], staticmethod)
                    if arguments is not None:
                        self.assertEqual(str(inspect.signature(getattr(kind, method))), arguments, (name, method))


if __name__ == "__main__":
    unittest.main()

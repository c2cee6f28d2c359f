"""Points 18 to 20: earliest starts, kept starts and faults."""

import itertools
import random
import unittest

from laterways.day import Day, Meeting, Person
from laterways.earliest import can_be_kept, earliest, fault, late
from laterways.errors import BadName, BadNumber
from laterways.ways import Ways
from days import example, some_days
from models import walk_fault, walk_starts


class Point18(unittest.TestCase):
    def test_example(self):
        day = example()
        self.assertEqual(earliest(day), {"last": 95, "both": 80, "first": 20})
        self.assertEqual(list(earliest(day)), ["last", "both", "first"])
        self.assertEqual(late(day), [])
        self.assertIs(can_be_kept(day), True)

    def test_late_meetings_go_on(self):
        ways = Ways("a")
        meetings = [Meeting("two", "a", 0, 30, 10), Meeting("one", "a", 0, 5, 20), Meeting("three", "a", 0, 30, 0)]
        day = Day(ways, meetings, [Person("ann", "a", 6, "one", "two", "three")])
        self.assertEqual(earliest(day), {"two": 26, "one": 6, "three": 36})
        self.assertEqual(late(day), ["one", "three"])
        self.assertIs(can_be_kept(day), False)

    def test_at_latest_is_not_late(self):
        for leaves, names in ((5, []), (6, ["one"])):
            day = Day(Ways("a"), [Meeting("one", "a", 0, 5, 20)], [Person("ann", "a", leaves, "one")])
            self.assertEqual(late(day), names)
            self.assertIs(can_be_kept(day), not names)

    def test_nobody_and_nothing(self):
        self.assertEqual(earliest(Day(Ways("a"), [], [])), {})
        self.assertEqual(late(Day(Ways("a"), [], [])), [])
        self.assertIs(can_be_kept(Day(Ways("a"), [], [])), True)
        self.assertEqual(earliest(Day(Ways("a"), [Meeting("one", "a", 7, 9, 1)], [])), {"one": 7})

    def test_against_a_walk_along_the_rows(self):
        seen = {True: 0, False: 0}
        for day, (roads, meetings, people) in some_days(81, 250):
            starts = walk_starts(roads, meetings, people)
            self.assertEqual(earliest(day), starts)
            self.assertEqual(list(earliest(day)), [meeting[0] for meeting in meetings])
            names = [meeting[0] for meeting in meetings if starts[meeting[0]] > meeting[3]]
            self.assertEqual(late(day), names)
            self.assertIs(can_be_kept(day), names == [])
            seen[names == []] += 1
        self.assertTrue(seen[True] > 30 and seen[False] > 30, seen)

    def test_joined_days(self):
        one = example()
        two = Day(Ways("z"), [Meeting("other", "z", 9, 12, 3)], [Person("cy", "z", 11, "other")])
        self.assertEqual(earliest(one + two), {"last": 95, "both": 80, "first": 20, "other": 11})

    def test_returned_values_are_new(self):
        day = example()
        earliest(day).clear()
        earliest(day)["first"] = 1000
        late(day).append("first")
        self.assertEqual(earliest(day), {"last": 95, "both": 80, "first": 20})
        self.assertEqual(late(day), [])


class Point19(unittest.TestCase):
    def test_kept(self):
        day = example()
        for starts in ({"last": 95, "both": 80, "first": 20}, {"first": 25, "last": 200, "both": 90}):
            self.assertIsNone(fault(day, starts))

    def test_each_reason(self):
        day = example()
        cases = [
            ({"last": 95, "both": 80, "first": 19}, ("first", "early", None)),
            ({"last": 95, "both": 80, "first": 26}, ("first", "late", None)),
            ({"last": 95, "both": 79, "first": 20}, ("both", "arrives", "bob")),
            ({"last": 94, "both": 80, "first": 20}, ("last", "arrives", "ann")),
            ({"last": 95, "both": 70, "first": 20}, ("both", "arrives", "bob")),
            ({"last": 95, "both": 69, "first": 20}, ("both", "early", None)),
            ({"last": 201, "both": 80, "first": 20}, ("last", "late", None)),
            ({"last": 0, "both": 69, "first": 19}, ("last", "arrives", "ann")),
            ({"last": 106, "both": 91, "first": 19}, ("both", "late", None)),
        ]
        for starts, answer in cases:
            self.assertEqual(fault(day, starts), answer)
            self.assertIs(fault(day, starts).__class__, tuple)

    def test_leaving_home_late(self):
        day = Day(Ways("a"), [Meeting("one", "a", 0, 9, 1)], [Person("ann", "a", 6, "one")])
        self.assertEqual(fault(day, {"one": 5}), ("one", "arrives", "ann"))
        self.assertIsNone(fault(day, {"one": 6}))

    def test_first_attendee_who_arrives_after_the_start(self):
        people = [Person("zed", "a", 3, "one"), Person("ann", "a", 6, "one"), Person("bob", "a", 8, "one")]
        day = Day(Ways("a"), [Meeting("one", "a", 0, 9, 1)], people)
        for start, person in ((2, "zed"), (3, "ann"), (5, "ann"), (6, "bob"), (7, "bob")):
            self.assertEqual(fault(day, {"one": start}), ("one", "arrives", person))
        self.assertIsNone(fault(day, {"one": 8}))

    def test_arrivals_are_reckoned_from_the_told_starts(self):
        """A meeting that is told too early lets the next one be in time."""
        day = Day(
            Ways("a"), [Meeting("two", "a", 0, 90, 1), Meeting("one", "a", 50, 90, 10)],
            [Person("ann", "a", 0, "one", "two")],
        )
        self.assertEqual(fault(day, {"two": 15, "one": 5}), ("one", "early", None))
        self.assertEqual(fault(day, {"two": 14, "one": 5}), ("two", "arrives", "ann"))

    def test_against_a_walk(self):
        rng = random.Random(82)
        seen = {}
        for day, (roads, meetings, people) in some_days(83, 150):
            found = earliest(day)
            for _ in range(12):
                starts = {name: max(0, start + rng.choice([-2, -1, 0, 0, 0, 1, 5, 20])) for name, start in found.items()}
                answer = walk_fault(roads, meetings, people, starts)
                self.assertEqual(fault(day, starts), answer)
                reason = answer and answer[1]
                seen[reason] = seen.get(reason, 0) + 1
        self.assertTrue(all(seen[reason] > 20 for reason in (None, "early", "late", "arrives")), seen)

    def refused_name(self, name, starts):
        with self.assertRaises(BadName) as held:
            fault(example(), starts)
        self.assertEqual(held.exception.name, name)

    def test_missing_starts_first(self):
        self.refused_name("last", {})
        self.refused_name("both", {"last": 95, "first": 20})
        self.refused_name("both", {"first": -1, "zz": 4, "last": None})
        self.refused_name("first", {"zz": 4, "both": 0, "last": 95})

    def test_then_keys_that_are_no_meetings(self):
        self.refused_name("zz", {"zz": 4, "last": 95, "both": 80, "first": 20})
        self.refused_name("yy", {"last": 95, "yy": 1, "both": 80, "zz": 4, "first": 20})
        self.refused_name("ann", {"last": True, "both": -1, "first": 20, "ann": 3, "zz": 1})
        for wrong in (None, True, 3, ("last",), ""):
            self.refused_name(wrong, {"last": -1, "both": 80, "first": 20, wrong: 0})

    def test_then_starts_that_are_no_minutes(self):
        for wrong in (-1, True, False, None, "20", 20.0, (20,)):
            for name in ("last", "both", "first"):
                starts = {"first": -5, "both": -5, "last": -5}
                starts[name] = wrong
                for before in ("last", "both", "first"):
                    if before == name:
                        break
                    starts[before] = 0
                with self.assertRaises(BadNumber) as held:
                    fault(example(), starts)
                self.assertEqual(held.exception.what, "start")
                self.assertIs(held.exception.value, wrong)

    def test_starts_are_not_modified(self):
        starts = {"first": 25, "last": 200, "both": 90}
        fault(example(), starts)
        self.assertEqual(list(starts.items()), [("first", 25), ("last", 200), ("both", 90)])

    def test_great_starts(self):
        self.assertEqual(fault(example(), {"last": 10 ** 40, "both": 80, "first": 20}), ("last", "late", None))


class Point20(unittest.TestCase):
    def test_kept_starts(self):
        """All rows of starts from opens to latest of small days."""
        seen = {True: 0, False: 0}
        for day, _ in some_days(84, 250, most=3, wide=12):
            ranges = [range(meeting.opens, meeting.latest + 1) for meeting in day.meetings]
            kept = []
            for row in itertools.product(*ranges):
                starts = {meeting.name: start for meeting, start in zip(day.meetings, row)}
                if fault(day, starts) is None:
                    kept.append(starts)
            found = earliest(day)
            self.assertIs(can_be_kept(day), kept != [])
            self.assertEqual(fault(day, found) is None, can_be_kept(day))
            for starts in kept:
                self.assertTrue(all(starts[name] >= found[name] for name in found))
            seen[kept != []] += 1
        self.assertTrue(seen[True] > 30 and seen[False] > 30, seen)


if __name__ == "__main__":
    unittest.main()

"""Point 32: minutes to which a meeting can be told for sure."""

import random
import unittest

from days import example, some_days
from laterways.changes import Changes, safe, worst
from laterways.day import Day, Meeting, Person
from laterways.rising import Rising
from laterways.sure import latest_under, surely
from laterways.ways import Ways
from models import in_time_from, told_at_least
from test_changes import example_changes, some_changes
from test_moves import late_day
from test_ways import NO_NAMES, WaysCase


def greatest_in_time(parts, legs, lengths, name, many):
    """The greatest start of point 32, None if there is none, tried minute by minute."""
    latest = [meeting[3] for meeting in parts[1] if meeting[0] == name][0]
    for minute in range(latest, -80, -1):
        if in_time_from(parts, legs, lengths, name, minute, many):
            return minute
    return None


def two_at_one_place(latest_one=90, latest_two=15, length=0):
    """Ann goes to the first meeting and then to the second one, without any way."""
    meetings = [Meeting("two", "a", 0, latest_two, 1), Meeting("one", "a", 0, latest_one, length)]
    return Day(Ways("a"), meetings, [Person("ann", "a", 0, "one", "two")])


class LatestUnder(WaysCase):
    def test_example(self):
        day = example()
        found = latest_under(day, example_changes())
        self.assertEqual(found, {"last": (200, 200, 200), "both": (90, 90, 90), "first": (25, 25, 25)})
        self.assertEqual(list(found), ["last", "both", "first"])
        self.assertEqual([row.__class__ for row in found.values()], [tuple] * 3)

    def test_length_and_leg_share_the_changes(self):
        day = two_at_one_place(latest_two=50, length=10)
        changes = Changes({("ann", "two"): 7, ("ann", "one"): 100}, {"one": 5, "two": 200}, 3)
        self.assertEqual(latest_under(day, changes), {"two": (50,) * 4, "one": (40, 33, 28, 28)})

    def test_below_0_and_none(self):
        day = two_at_one_place(latest_two=5, length=4)
        changes = Changes({("ann", "two"): 3}, {"one": 600}, 2)
        self.assertEqual(latest_under(day, changes), {"two": (5, 5, 5), "one": (1, -599, -602)})
        changes = Changes({("ann", "two"): 6}, {"one": 600}, 2)
        self.assertEqual(latest_under(day, changes), {"two": (5, 5, 5), "one": (1, None, None)})
        changes = Changes({("ann", "two"): 5}, {}, 1)
        self.assertEqual(latest_under(day, changes), {"two": (5, 5), "one": (1, -4)})

    def test_none_goes_on_to_the_meetings_before(self):
        """An entry below 0 gives None to the meeting before: nobody arrives before 0."""
        meetings = [Meeting(name, "a", 0, 9, 1) for name in ("one", "two", "three")]
        day = Day(Ways("a"), meetings, [Person("ann", "a", 0, "one", "two", "three")])
        changes = Changes({}, {"two": 20}, 1)
        self.assertEqual(latest_under(day, changes), {"one": (7, None), "two": (8, -12), "three": (9, 9)})

    def test_late_days_too(self):
        self.assertEqual(latest_under(late_day(), Changes({}, {}, 0)), {"one": (5,), "two": (90,)})

    def test_least_of_all_attendees(self):
        ways = Ways("a", "b")
        ways["a", "b"] = Rising.steady(10)
        meetings = [Meeting("one", "a", 0, 90, 5), Meeting("two", "b", 0, 60, 5), Meeting("three", "a", 0, 55, 5)]
        day = Day(ways, meetings, [Person("ann", "a", 0, "one", "two"), Person("bob", "a", 0, "one", "three")])
        changes = Changes({("ann", "two"): 8}, {}, 1)
        self.assertEqual(latest_under(day, changes)["one"], (45, 37))
        self.assertEqual(latest_under(day, Changes({}, {}, 0))["one"], (45,))

    def test_against_its_rule(self):
        rng = random.Random(321)
        seen = {"none": 0, "below": 0, "other": 0}
        for day, parts in some_days(322, 120, wide=14):
            legs, lengths, most = some_changes(rng, parts, 6)
            most = min(most, 3)
            found = latest_under(day, Changes(legs, lengths, most))
            self.assertEqual(list(found), [meeting.name for meeting in day.meetings])
            for name, row in found.items():
                right = tuple([greatest_in_time(parts, legs, lengths, name, many) for many in range(most + 1)])
                self.assertEqual(row, right)
                kind = "none" if row[-1] is None else "below" if row[-1] < 0 else "other"
                seen[kind] += 1
        self.assertTrue(all(count > 10 for count in seen.values()), seen)

    def test_returned_dictionaries_are_new(self):
        day, changes = two_at_one_place(), Changes({}, {}, 0)
        latest_under(day, changes).clear()
        self.assertEqual(latest_under(day, changes), {"two": (15,), "one": (15,)})


class Surely(WaysCase):
    def test_example(self):
        changes = Changes({("bob", "both"): 7}, {"both": 9}, 2)
        self.assertEqual(surely(example(), changes, "both"), (87, 90))
        self.assertEqual(surely(example(), changes, "last"), (111, 200))
        self.assertEqual(surely(example(), changes, "first"), (20, 25))
        self.assertIs(surely(example(), changes, "first").__class__, tuple)

    def test_safe_but_to_no_minute(self):
        """Changes before the meeting and changes behind it are never spent together."""
        day = two_at_one_place()
        changes = Changes({("ann", "one"): 10}, {"one": 10}, 1)
        self.assertIs(safe(day, changes), True)
        self.assertEqual(worst(day, changes), {"two": (0, 10), "one": (0, 10)})
        self.assertEqual(latest_under(day, changes), {"two": (15, 15), "one": (15, 5)})
        self.assertIsNone(surely(day, changes, "one"))
        self.assertEqual(surely(day, changes, "two"), (10, 15))

    def test_first_and_last_may_be_one_minute(self):
        changes = Changes({("ann", "one"): 5}, {"one": 10}, 1)
        self.assertEqual(surely(two_at_one_place(), changes, "one"), (5, 5))
        changes = Changes({("ann", "one"): 6}, {"one": 10}, 1)
        self.assertIsNone(surely(two_at_one_place(), changes, "one"))

    def test_a_day_that_is_not_safe(self):
        """None also for a meeting that has nothing to do with the late one."""
        meetings = [Meeting("one", "a", 0, 5, 0), Meeting("two", "a", 3, 9, 1)]
        day = Day(Ways("a"), meetings, [Person("ann", "a", 0, "one")])
        self.assertEqual(surely(day, Changes({("ann", "one"): 5}, {}, 1), "two"), (3, 9))
        for name in ("one", "two"):
            self.assertIsNone(surely(day, Changes({("ann", "one"): 6}, {}, 1), name))
            self.assertIsNone(surely(late_day(), Changes({}, {}, 0), name))

    def test_none_as_the_last_entry(self):
        meetings = [Meeting("one", "a", 0, 9, 0), Meeting("two", "a", 0, 9, 0)]
        day = Day(Ways("a"), meetings, [Person("ann", "a", 0, "one", "two")])
        changes = Changes({("ann", "two"): 10}, {}, 1)
        self.assertEqual(latest_under(day, changes)["one"], (9, None))
        self.assertIsNone(surely(day, changes, "one"))
        self.assertIs(safe(day, changes), False)

    def test_against_all_changes_and_minutes(self):
        rng = random.Random(323)
        seen = {"none": 0, "some": 0, "safe but none": 0}
        for day, parts in some_days(324, 250, most=4, wide=25):
            legs, lengths, most = some_changes(rng, parts, 4, longest=8)
            changes = Changes(legs, lengths, most)
            name = rng.choice(parts[1])[0]
            minutes = told_at_least(parts, legs, lengths, most, name)
            found = surely(day, changes, name)
            self.assertEqual(list(range(found[0], found[1] + 1)) if found else [], minutes)
            seen["some" if found else "safe but none" if safe(day, changes) else "none"] += 1
            last = latest_under(day, changes)[name][-1]
            first = worst(day, changes)[name][-1]
            right = None if not safe(day, changes) or last is None or first > last else (first, last)
            self.assertEqual(found, right)
        self.assertTrue(seen["none"] > 20 and seen["some"] > 20, seen)

    def test_strange_names(self):
        for wrong in NO_NAMES + ["none", "ann"]:
            self.bad_name(wrong, lambda: surely(example(), example_changes(), wrong))
            self.bad_name(wrong, lambda: surely(late_day(), Changes({}, {}, 0), wrong))

    def test_nothing_is_modified(self):
        day, changes = example(), example_changes()
        surely(day, changes, "both")
        latest_under(day, changes)
        self.assertEqual((day, vars(changes)), (example(), vars(example_changes())))


if __name__ == "__main__":
    unittest.main()

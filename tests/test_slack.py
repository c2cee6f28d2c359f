"""Points 26 and 27: slack, longer legs, and the time that was left."""

import random
import unittest

from days import example, some_days
from laterways.changes import Changes, changed
from laterways.day import Day, Meeting, Person
from laterways.earliest import can_be_kept, earliest, fault
from laterways.errors import BadName, BadNumber, CalendarError, NotKept
from laterways.moves import latest_starts
from laterways.rising import Rising
from laterways.slack import longer, slack, slack_of_all, slacks, spare
from laterways.ways import Ways
from models import leaving_home, leg_arrival, told_legs
from test_day import NO_INTEGERS
from test_moves import late_day
from test_ways import NO_NAMES, WaysCase

NO_LEGS = [("zed", "first", "zed"), ("first", "ann", "first"), ("bob", "first", "first"), ("ann", "none", "none")]


class Longer(WaysCase):
    def check_longer(self, day, made, minutes):
        """All maps, one by one; everything else stays."""
        self.assertIs(made.__class__, Day)
        self.assertEqual((made.meetings, made.people, made.legs), (day.meetings, day.people, day.legs))
        self.assertEqual(made.order(), day.order())
        for leg in day.legs:
            self.assertEqual(made.leg_map(*leg), day.leg_map(*leg) + minutes.get(leg, 0), leg)

    def test_all_legs(self):
        day = example()
        self.check_longer(day, longer(day, 7), {leg: 7 for leg in day.legs})
        self.check_longer(day, longer(day, 10 ** 30), {leg: 10 ** 30 for leg in day.legs})

    def test_told_legs(self):
        day = example()
        self.check_longer(day, longer(day, 7, ("bob", "both")), {("bob", "both"): 7})
        legs = [("ann", "last"), ("ann", "first")]
        self.check_longer(day, longer(day, 7, *legs), {leg: 7 for leg in legs})
        self.check_longer(day, longer(day, 7, *legs, *legs, legs[0]), {leg: 7 for leg in legs})
        self.check_longer(day, longer(day, 7, legs[0], legs[0]), {legs[0]: 7})

    def test_no_minutes(self):
        day = example()
        self.assertEqual(longer(day, 0), day)
        self.assertEqual(longer(day, 0, ("ann", "last")), day)
        self.assertIsNot(longer(day, 0), day)

    def test_no_legs(self):
        day = Day(Ways("a"), [Meeting("one", "a", 0, 5, 1)], [])
        self.assertEqual(longer(day, 5), day)
        for wrong in [-1] + NO_INTEGERS:
            self.bad_number("minutes", wrong, lambda: longer(day, wrong))

    def test_legs_within_one_place(self):
        day = Day(Ways("a"), [Meeting("one", "a", 0, 5, 1)], [Person("ann", "a", 3, "one")])
        self.assertEqual(longer(day, 5).leg_map("ann", "one"), Rising.steady(5))

    def test_many_days(self):
        rng = random.Random(261)
        for day, _ in some_days(262, 60):
            legs = [leg for leg in day.legs if rng.random() < 0.4]
            n = rng.randint(0, 40)
            self.check_longer(day, longer(day, n, *legs), {leg: n for leg in legs or day.legs})

    def test_errors(self):
        day = example()
        for person, name, wrong in NO_LEGS:
            self.bad_name(wrong, lambda: longer(day, -1, (person, name)))
            self.bad_name(wrong, lambda: longer(day, 5, ("ann", "last"), (person, name), ("yy", "last")))
        for wrong in NO_NAMES:
            self.bad_name(wrong, lambda: longer(day, True, (wrong, "first")))
            self.bad_name(wrong, lambda: longer(day, True, ("ann", wrong)))
        for wrong in [-1] + NO_INTEGERS:
            self.bad_number("minutes", wrong, lambda: longer(day, wrong))
            self.bad_number("minutes", wrong, lambda: longer(day, wrong, ("ann", "last")))
        self.assertEqual(day, example())

    def test_a_length_beyond_the_limit_stays(self):
        day = changed(example(), Changes({}, {"first": 600}, 1), ["first"])
        self.assertEqual(longer(day, 3)["first"].length, 630)


class Slack(WaysCase):
    def test_example(self):
        day = example()
        self.assertEqual(slacks(day), [("ann", "first", 20), ("ann", "both", 25), ("ann", "last", 105), ("bob", "both", 10)])
        self.assertEqual(slack(day, "bob", "both"), 10)
        self.assertEqual(slack_of_all(day), 10)

    def test_one_more_is_too_much(self):
        many = 0
        for day, _ in some_days(263, 200):
            if not can_be_kept(day):
                continue
            found = slacks(day)
            self.assertEqual([(person, name) for person, name, _ in found], list(day.legs))
            for person, name, minutes in found:
                self.assertEqual(slack(day, person, name), minutes)
                self.assertTrue(can_be_kept(longer(day, minutes, (person, name))))
                self.assertFalse(can_be_kept(longer(day, minutes + 1, (person, name))))
                many += 1
            for row in found:
                self.assertIs(row.__class__, tuple)
        self.assertTrue(many > 100, many)

    def test_of_all_one_more_is_too_much(self):
        less = 0
        for day, _ in some_days(264, 300):
            if can_be_kept(day):
                found = slack_of_all(day)
                self.assertEqual(found is None, not day.legs)
                if day.legs:
                    self.assertTrue(can_be_kept(longer(day, found)))
                    self.assertFalse(can_be_kept(longer(day, found + 1)))
                    less += found < min(row[2] for row in slacks(day))
        self.assertTrue(less > 20, less)

    def test_great_slack(self):
        day = Day(Ways("a"), [Meeting("one", "a", 0, 2880, 1)], [Person("ann", "a", 0, "one")])
        self.assertEqual((slack_of_all(day), slack(day, "ann", "one")), (2880, 2880))

    def test_no_slack(self):
        day = Day(Ways("a"), [Meeting("one", "a", 0, 9, 1)], [Person("ann", "a", 9, "one")])
        self.assertEqual((slack_of_all(day), slack(day, "ann", "one")), (0, 0))

    def test_without_legs(self):
        for meetings in ([], [Meeting("one", "a", 3, 5, 1)]):
            day = Day(Ways("a"), meetings, [Person("ann", "a", 9)])
            self.assertIsNone(slack_of_all(day))
            self.assertEqual(slacks(day), [])

    def test_not_kept(self):
        day = late_day()
        for call in (lambda: slack(day, "ann", "one"), lambda: slacks(day), lambda: slack_of_all(day)):
            with self.assertRaises(NotKept) as held:
                call()
            self.assertEqual(NotKept.__bases__, (CalendarError,))
            self.assertEqual(vars(held.exception), {})
        many = 0
        for day, _ in some_days(265, 60):
            if not can_be_kept(day):
                many += 1
                for call in (lambda: slack(day, *day.legs[0]), lambda: slacks(day), lambda: slack_of_all(day)):
                    self.assertRaises(NotKept, call)
        self.assertTrue(many > 10, many)

    def test_the_errors_of_leg_map_first(self):
        for person, name, wrong in NO_LEGS:
            self.bad_name(wrong, lambda: slack(example(), person, name))
        day = late_day()
        self.bad_name("zed", lambda: slack(day, "zed", "one"))
        self.bad_name("two", lambda: slack(day, "ann", "two"))
        for wrong in NO_NAMES:
            self.bad_name(wrong, lambda: slack(day, wrong, "none"))
            self.bad_name(wrong, lambda: slack(day, "ann", wrong))

    def test_returned_lists_are_new(self):
        day = example()
        slacks(day).clear()
        self.assertEqual(len(slacks(day)), 4)
        self.assertEqual(day, example())


class Point27(WaysCase):
    def test_example(self):
        day = example()
        found = spare(day, {"last": 95, "both": 80, "first": 20})
        self.assertEqual(found, [("ann", "first", 20, 15), ("ann", "both", 75, 15), ("ann", "last", 95, 0), ("bob", "both", 50, 0)])
        self.assertEqual([row.__class__ for row in found], [tuple] * 4)

    def test_none_where_leaving_at_once_is_too_late(self):
        day = example()
        found = spare(day, {"last": 0, "both": 19, "first": 4})
        self.assertEqual(found, [("ann", "first", 4, -1), ("ann", "both", None, -35), ("ann", "last", 0, -34), ("bob", "both", None, -61)])

    def test_many_days(self):
        rng = random.Random(271)
        seen = {"none": 0, "below": 0, "kept": 0}
        for day, parts in some_days(272, 120):
            legs = told_legs(parts)
            tries = [earliest(day), latest_starts(day) or earliest(day)]
            for _ in range(4):
                tries.append({meeting.name: rng.randint(0, 60) for meeting in day.meetings})
            for starts in tries:
                told = starts.copy()
                found = spare(day, starts)
                self.assertEqual(starts, told)
                seen["kept"] += fault(day, starts) is None
                self.assertEqual([row[:2] for row in found], list(day.legs))
                for person, name, latest, minutes in found:
                    leg = (person, name)
                    before, here, there, length = legs[leg]
                    begin = starts[before] if before else leaving_home(parts, person)
                    self.assertEqual(minutes, starts[name] - leg_arrival(parts, leg, begin))
                    way = day.leg_map(person, name)
                    leavings = [minute for minute in range(120) if way(minute) <= starts[name]]
                    self.assertEqual(latest, max(leavings) if leavings else None)
                    seen["none"] += latest is None
                    seen["below"] += minutes < 0
        self.assertTrue(all(count > 20 for count in seen.values()), seen)

    def test_errors_of_fault(self):
        day = example()
        cases = [
            {}, {"last": 95, "first": 20}, {"first": -1, "zz": 4, "last": None}, {"zz": 4, "last": 95, "both": 80, "first": 20},
            {"last": 95, "yy": -1, "both": 80, "zz": 4, "first": 20}, {"last": True, "both": -1, "first": 20, "ann": 3},
            {"last": -1, "both": 80, "first": 20, None: 0},
        ]
        for wrong in [-1] + NO_INTEGERS:
            for name in ("last", "both", "first"):
                cases.append({"first": wrong, "last": 0, "both": 0, name: wrong})
        for starts in cases:
            told = list(starts.items())
            with self.assertRaises((BadName, BadNumber)) as held:
                spare(day, starts)
            with self.assertRaises((BadName, BadNumber)) as other:
                fault(day, starts)
            self.assertIs(held.exception.__class__, other.exception.__class__)
            self.assertEqual(vars(held.exception), vars(other.exception))
            self.assertEqual(list(starts.items()), told)

    def test_refusals_in_order(self):
        day = example()
        self.bad_name("last", lambda: spare(day, {"zz": -1, "both": -1}))
        self.bad_name("zz", lambda: spare(day, {"zz": -1, "both": -1, "last": -1, "first": -1}))
        self.bad_number("start", -2, lambda: spare(day, {"first": -1, "both": -1, "last": -2}))
        self.bad_number("start", True, lambda: spare(day, {"first": -1, "both": True, "last": 0}))

    def test_a_late_day_and_one_without_legs(self):
        self.assertEqual(spare(late_day(), {"one": 6, "two": 0}), [("ann", "one", 6, 0)])
        self.assertEqual(spare(Day(Ways("a"), [], []), {}), [])

    def test_returned_lists_are_new(self):
        day = example()
        starts = {"last": 95, "both": 80, "first": 20}
        spare(day, starts).clear()
        self.assertEqual(len(spare(day, starts)), 4)


if __name__ == "__main__":
    unittest.main()

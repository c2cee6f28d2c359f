"""Points 23 to 25: latest starts and moves."""

import itertools
import unittest

from days import example, some_days
from laterways.changes import Changes, changed
from laterways.day import Day, Meeting, Person
from laterways.earliest import can_be_kept, earliest, fault
from laterways.moves import fixed, latest_starts, meet_at, moves, moves_with
from laterways.rising import Rising
from laterways.slack import longer
from laterways.ways import Ways
from test_day import NO_INTEGERS
from test_ways import NO_NAMES, WaysCase


def kept_rows(day):
    """All kept rows of starts, tried one by one."""
    ranges = [range(meeting.opens, meeting.latest + 1) for meeting in day.meetings]
    names = [meeting.name for meeting in day.meetings]
    rows = [dict(zip(names, row)) for row in itertools.product(*ranges)]
    return [starts for starts in rows if fault(day, starts) is None]


def small_days(seed, many):
    return [day for day, _ in some_days(seed, many, most=3, wide=9)]


def late_day():
    """A day that cannot be kept."""
    meetings = [Meeting("one", "a", 0, 5, 20), Meeting("two", "a", 0, 90, 20)]
    return Day(Ways("a"), meetings, [Person("ann", "a", 6, "one")])


def level_day():
    """Two meetings of no length; the way between them takes no time at some minutes alone."""
    ways = Ways("a", "b")
    ways["a", "b"] = Rising([(0, 4, False), (5, 5, True), (8, 11, False), (12, 12, True)])
    meetings = [Meeting("one", "a", 0, 15, 0), Meeting("two", "b", 2, 13, 0)]
    return Day(ways, meetings, [Person("ann", "a", 0, "one", "two")])


class Point23(WaysCase):
    def test_example(self):
        day = example()
        self.assertEqual(latest_starts(day), {"last": 200, "both": 90, "first": 25})
        self.assertEqual(list(latest_starts(day)), ["last", "both", "first"])
        self.assertEqual(latest_starts(fixed(day, "last", 100)), {"last": 100, "both": 85, "first": 25})

    def test_length_and_way_count(self):
        ways = Ways("a", "b")
        ways["a", "b"] = Rising.steady(7)
        meetings = [Meeting("two", "b", 0, 50, 10), Meeting("one", "a", 0, 90, 20)]
        day = Day(ways, meetings, [Person("ann", "a", 0, "one", "two"), Person("bob", "a", 0, "one")])
        self.assertEqual(latest_starts(day), {"two": 50, "one": 23})

    def test_none_if_the_day_cannot_be_kept(self):
        self.assertIsNone(latest_starts(late_day()))

    def test_nobody_and_nothing(self):
        self.assertEqual(latest_starts(Day(Ways("a"), [], [])), {})
        self.assertEqual(latest_starts(Day(Ways("a"), [Meeting("one", "a", 7, 9, 1)], [])), {"one": 9})

    def test_against_a_search(self):
        seen = {True: 0, False: 0}
        for day in small_days(231, 200):
            kept = kept_rows(day)
            found = latest_starts(day)
            seen[found is None] += 1
            if not kept:
                self.assertIsNone(found)
                continue
            self.assertEqual(list(found), [meeting.name for meeting in day.meetings])
            self.assertIn(found, kept)
            for name in found:
                self.assertEqual(found[name], max(starts[name] for starts in kept))
        self.assertTrue(seen[True] > 20 and seen[False] > 20, seen)

    def test_one_minute_later_is_not_kept(self):
        many = 0
        for day, _ in some_days(232, 250):
            found = latest_starts(day)
            self.assertEqual(found is None, not can_be_kept(day))
            if found is not None:
                many += 1
                self.assertIsNone(fault(day, found))
                for name, start in found.items():
                    self.assertTrue(can_be_kept(fixed(day, name, start)))
                    self.assertTrue(start == day[name].latest or not can_be_kept(fixed(day, name, start + 1)))
        self.assertTrue(many > 50, many)

    def test_returned_values_are_new(self):
        day = example()
        latest_starts(day).clear()
        latest_starts(day)["first"] = 0
        self.assertEqual(latest_starts(day), {"last": 200, "both": 90, "first": 25})
        self.assertEqual(day, example())


class Point24(WaysCase):
    def test_moves_of_the_example(self):
        day = example()
        self.assertEqual([moves(day, name) for name in ("last", "both", "first")], [(95, 200), (80, 90), (20, 25)])
        self.assertIs(moves(day, "first").__class__, tuple)
        self.assertIsNone(moves(late_day(), "two"))

    def test_exactly_the_minutes_of_kept_rows(self):
        for day in small_days(241, 120):
            kept = kept_rows(day)
            for meeting in day.meetings:
                found = moves(day, meeting.name)
                minutes = {starts[meeting.name] for starts in kept}
                self.assertEqual(set(range(found[0], found[1] + 1)) if found else set(), minutes)

    def test_moves_with_exactly_the_minutes_of_kept_rows(self):
        seen = {True: 0, False: 0}
        for day in small_days(242, 80):
            kept = kept_rows(day)
            for meeting in day.meetings:
                for minute in range(0, meeting.latest + 3):
                    rows = [starts for starts in kept if starts[meeting.name] == minute]
                    for other in day.meetings:
                        found = moves_with(day, meeting.name, minute, other.name)
                        minutes = {starts[other.name] for starts in rows}
                        self.assertEqual(set(range(found[0], found[1] + 1)) if found else set(), minutes)
                        seen[found is None] += 1
        self.assertTrue(seen[True] > 100 and seen[False] > 100, seen)

    def test_moves_with_itself(self):
        day = example()
        for minute in range(0, 2881, 1):
            self.assertEqual(moves_with(day, "first", minute, "first"), (minute, minute) if 20 <= minute <= 25 else None)
        self.assertEqual(moves_with(day, "both", 80, "both"), (80, 80))
        self.assertIsNone(moves_with(day, "both", 79, "both"))

    def test_moves_with_outside_of_the_window(self):
        """Later than latest the day could be kept, but only by another day."""
        day = example()
        self.assertEqual(moves_with(day, "first", 25, "both"), (80, 90))
        for minute in (0, 19, 26, 2880):
            self.assertIsNone(moves_with(day, "first", minute, "both"))
        self.assertEqual(moves(fixed(day, "first", 26), "both"), (80, 90))

    def test_moves_with_if_the_day_cannot_be_kept(self):
        for minute in (0, 5, 6, 90):
            for name, other in itertools.product(("one", "two"), repeat=2):
                self.assertIsNone(moves_with(late_day(), name, minute, other))

    def test_fixed_changes_the_one_meeting_alone(self):
        for day, _ in some_days(243, 40):
            before = [vars(meeting).copy() for meeting in day.meetings]
            for place, meeting in enumerate(day.meetings):
                for minute in (0, 17, 2880):
                    made = fixed(day, meeting.name, minute)
                    self.assertIs(made.__class__, Day)
                    self.assertEqual(made.people, day.people)
                    self.assertEqual(made.legs, day.legs)
                    self.assertEqual(made.order(), day.order())
                    for leg in day.legs:
                        self.assertEqual(made.leg_map(*leg), day.leg_map(*leg))
                    told = Meeting(meeting.name, meeting.place, minute, minute, meeting.length)
                    self.assertEqual(made.meetings, day.meetings[:place] + (told,) + day.meetings[place + 1:])
                    self.assertEqual(made.meetings.__class__, tuple)
            self.assertEqual([vars(meeting) for meeting in day.meetings], before)

    def test_fixed_to_where_it_is(self):
        day = fixed(example(), "first", 20)
        self.assertEqual(fixed(day, "first", 20), day)
        self.assertNotEqual(day, example())

    def test_fixed_with_a_length_beyond_the_limit(self):
        day = changed(example(), Changes({}, {"first": 600}, 1), ["first"])
        made = fixed(fixed(day, "first", 30), "last", 5)
        self.assertEqual((made["first"].length, made["first"].opens, made["last"].opens), (630, 30, 5))
        self.assertEqual(earliest(made), {"last": 680, "both": 665, "first": 30})

    def test_errors(self):
        for day in (example(), late_day()):
            name = day.meetings[0].name
            for wrong in NO_NAMES + ["none", "ann"]:
                self.bad_name(wrong, lambda: moves(day, wrong))
                self.bad_name(wrong, lambda: fixed(day, wrong, -1))
                self.bad_name(wrong, lambda: moves_with(day, wrong, -1, ""))
                self.bad_name(wrong, lambda: moves_with(day, name, -1, wrong))
            for wrong in [-1, 2881] + NO_INTEGERS:
                self.bad_number("minute", wrong, lambda: fixed(day, name, wrong))
                self.bad_number("minute", wrong, lambda: moves_with(day, name, wrong, name))
                self.bad_number("minute", wrong, lambda: moves_with(day, name, wrong, day.meetings[1].name))
        self.assertEqual(fixed(example(), "first", 2880)["first"].latest, 2880)
        self.assertEqual(fixed(example(), "first", 0)["first"].opens, 0)


class Point25(WaysCase):
    def test_against_a_search(self):
        seen = {True: 0, False: 0}
        for day in small_days(251, 200):
            kept = kept_rows(day)
            for one, other in itertools.product(day.meetings, repeat=2):
                minutes = sorted({row[one.name] for row in kept if row[one.name] == row[other.name]})
                self.assertEqual(meet_at(day, one.name, other.name), minutes)
                if one is not other:
                    seen[minutes != []] += 1
        self.assertTrue(seen[True] > 30 and seen[False] > 30, seen)

    def test_by_moves_with(self):
        many = 0
        for day, _ in some_days(252, 30, wide=70):
            for one, other in itertools.permutations(day.meetings, 2):
                found = []
                for minute in range(one.opens, one.latest + 1):
                    range_of_other = moves_with(day, one.name, minute, other.name)
                    if range_of_other and range_of_other[0] <= minute <= range_of_other[1]:
                        found.append(minute)
                self.assertEqual(meet_at(day, one.name, other.name), found)
                many += found != []
        self.assertTrue(many > 20, many)

    def test_one_behind_the_other_one(self):
        day = level_day()
        self.assertEqual(meet_at(day, "one", "two"), [4, 5, 6, 7, 11, 12, 13])
        self.assertEqual(meet_at(day, "two", "one"), [4, 5, 6, 7, 11, 12, 13])
        self.assertEqual(meet_at(example(), "first", "both"), [])

    def test_two_people_go_from_one_to_the_other(self):
        """Either of them may be the one who comes too late to meet."""
        ways = Ways("a")
        meetings = [Meeting("one", "a", 3, 9, 0), Meeting("mid", "a", 0, 90, 0), Meeting("two", "a", 5, 20, 0)]
        people = [Person("ann", "a", 0, "one", "two"), Person("bob", "a", 0, "one", "mid", "two")]
        day = Day(ways, meetings, people)
        self.assertEqual(meet_at(day, "one", "two"), [5, 6, 7, 8, 9])
        for leg in (("ann", "two"), ("bob", "mid"), ("bob", "two")):
            self.assertEqual(meet_at(longer(day, 1, leg), "one", "two"), [])
            self.assertEqual(meet_at(longer(day, 1, leg), "two", "one"), [])

    def test_one_with_itself(self):
        self.assertEqual(meet_at(example(), "first", "first"), [20, 21, 22, 23, 24, 25])
        self.assertEqual(meet_at(late_day(), "two", "two"), [])

    def test_all_minutes(self):
        day = Day(Ways("a"), [Meeting("one", "a", 0, 2880, 9), Meeting("two", "a", 0, 2880, 3)], [])
        self.assertEqual(meet_at(day, "one", "two"), list(range(2881)))

    def test_the_day_cannot_be_kept(self):
        for one, other in itertools.product(("one", "two"), repeat=2):
            self.assertEqual(meet_at(late_day(), one, other), [])

    def test_errors(self):
        for day in (example(), late_day()):
            for wrong in NO_NAMES + ["none", "ann"]:
                self.bad_name(wrong, lambda: meet_at(day, wrong, ""))
                self.bad_name(wrong, lambda: meet_at(day, day.meetings[0].name, wrong))

    def test_returned_lists_are_new(self):
        day = example()
        meet_at(day, "first", "first").clear()
        self.assertEqual(meet_at(day, "first", "first"), [20, 21, 22, 23, 24, 25])


if __name__ == "__main__":
    unittest.main()

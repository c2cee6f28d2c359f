"""Points 42 and 43: a live calendar."""

import random
import unittest

from days import example, made_ways, some_days
from laterways.calendar import Calendar
from laterways.day import Day, Meeting, Person
from laterways.earliest import earliest
from laterways.errors import BadDeed, BadName, BadNumber, BadRing, BadWay, CalendarError, NothingToUndo
from laterways.moves import fixed
from laterways.putting import with_meeting
from laterways.rising import Rising
from laterways.slack import longer
from laterways.slots import by_slots
from laterways.ways import Ways
from laterways.whole import leaving
from test_day import NO_INTEGERS
from test_putting import NEW, example_ways
from test_ways import NO_NAMES, WaysCase

STRANGE = NO_NAMES + ["zed", "none"]


def bigger(day, name, n):
    """The day with a longer meeting, made of its parts; the length is within the limit."""
    meetings = []
    for meeting in day.meetings:
        length = meeting.length + (n if meeting.name == name else 0)
        meetings.append(Meeting(meeting.name, meeting.place, meeting.opens, meeting.latest, length))
    return meetings


class CalendarCase(WaysCase):
    def stays(self, calendar, kind, call):
        """The call raises this error, and the calendar is as it was."""
        day, depth, ways = calendar.day, calendar.depth, calendar.ways.copy()
        with self.assertRaises(kind) as held:
            call()
        self.assertIs(held.exception.__class__, kind)
        self.assertIs(calendar.day, day)
        self.assertEqual((calendar.depth, calendar.ways), (depth, ways))
        return held.exception

    def no_name(self, calendar, name, call):
        self.assertEqual(self.stays(calendar, BadName, call).name, name)

    def no_number(self, calendar, what, value, call):
        error = self.stays(calendar, BadNumber, call)
        self.assertEqual((error.what, error.value), (what, value))
        self.assertIs(error.value.__class__, value.__class__)

    def no_way(self, calendar, start, end, call):
        error = self.stays(calendar, BadWay, call)
        self.assertEqual((error.start, error.end), (start, end))

    def takes(self, calendar, right, call):
        """The call returns None and gives the right day; undo gives the one before."""
        before, depth = calendar.day, calendar.depth
        self.assertIsNone(call())
        self.assertEqual(calendar.day, right)
        self.assertEqual(calendar.depth, depth + 1)
        self.assertIsNone(calendar.undo())
        self.assertEqual(calendar.day, before)
        self.assertEqual(calendar.depth, depth)
        self.assertIsNone(call())
        self.assertEqual(calendar.day, right)


class Made(CalendarCase):
    def test_attributes(self):
        ways, day = example_ways(), example()
        calendar = Calendar(ways, day)
        self.assertEqual(calendar.day, day)
        self.assertEqual(calendar.depth, 0)
        self.assertIs(calendar.depth.__class__, int)
        self.assertEqual(calendar.ways, ways)
        self.assertIsInstance(vars(Calendar)["day"], property)
        self.assertIsNotNone(vars(Calendar)["day"].fset)
        self.assertLessEqual({"depth", "ways"}, set(vars(calendar)))

    def test_the_ways_are_a_copy(self):
        ways = example_ways()
        calendar = Calendar(ways, example())
        ways["b", "a"] = Rising.steady(500)
        ways["a", "c"] = Rising.steady(1)
        self.assertEqual(calendar.ways, example_ways())
        calendar.put(Meeting("new", "a", 0, 300, 12), {"bob": 1})
        self.assertEqual(calendar.day.leg_map("bob", "new"), Rising.steady(7))
        calendar.ways["b", "c"] = Rising.steady(9)
        self.assertEqual(len(ways), 4)
        self.bad_way("b", "c", lambda: ways.told("b", "c"))

    def test_its_own_ways_may_be_told_anew(self):
        calendar = Calendar(example_ways(), example())
        calendar.ways["b", "a"] = Rising.steady(2)
        calendar.put(Meeting("new", "a", 0, 300, 12), {"bob": 1})
        self.assertEqual(calendar.day.leg_map("bob", "new"), Rising.steady(2))

    def test_a_second_calendar_of_the_same_day_stays(self):
        day, ways = example(), example_ways()
        one, two = Calendar(ways, day), Calendar(ways, day)
        one.move("first", 22)
        one.drop("both")
        one.ways["b", "a"] = Rising.steady(2)
        self.assertEqual((two.day, two.depth, two.ways), (example(), 0, example_ways()))
        self.assertEqual((day, ways), (example(), example_ways()))
        self.stays(two, NothingToUndo, two.undo)

    def test_assignment_and_load(self):
        other = fixed(example(), "first", 3)
        for start_anew in ("load", "assign"):
            calendar = Calendar(example_ways(), example())
            calendar.move("first", 22)
            calendar.delay("bob", "both", 3)
            if start_anew == "load":
                self.assertIsNone(calendar.load(other))
            else:
                calendar.day = other
            self.assertEqual((calendar.day, calendar.depth), (other, 0))
            self.stays(calendar, NothingToUndo, calendar.undo)
            calendar.leave("ann", 9)
            self.assertEqual((calendar.day, calendar.depth), (leaving(other, "ann", 9), 1))
            calendar.undo()
            self.assertEqual(calendar.day, other)
            self.assertEqual(calendar.ways, example_ways())


class Deeds(CalendarCase):
    def test_move(self):
        calendar = Calendar(example_ways(), example())
        for name, minute in (("first", 22), ("first", 0), ("last", 2880), ("both", 75)):
            right = fixed(calendar.day, name, minute)
            self.takes(calendar, right, lambda: calendar.move(name, minute))
        for wrong in STRANGE + ["ann"]:
            self.no_name(calendar, wrong, lambda: calendar.move(wrong, -1))
        for wrong in [-1, 2881] + NO_INTEGERS:
            self.no_number(calendar, "minute", wrong, lambda: calendar.move("first", wrong))

    def test_delay(self):
        calendar = Calendar(example_ways(), example())
        for person, name, n in (("ann", "last", 4), ("bob", "both", 0), ("ann", "last", 10 ** 9), ("ann", "first", 1)):
            right = longer(calendar.day, n, (person, name))
            self.takes(calendar, right, lambda: calendar.delay(person, name, n))
        self.assertEqual(calendar.day.leg_map("ann", "last"), Rising.steady(10 ** 9 + 4))
        self.assertEqual(calendar.day.leg_map("ann", "both"), example().leg_map("ann", "both"))
        for wrong in STRANGE + ["first"]:
            self.no_name(calendar, wrong, lambda: calendar.delay(wrong, "none", -1))
        for wrong in STRANGE + ["ann"]:
            self.no_name(calendar, wrong, lambda: calendar.delay("ann", wrong, -1))
        self.no_name(calendar, "first", lambda: calendar.delay("bob", "first", -1))
        for wrong in [-1] + NO_INTEGERS:
            self.no_number(calendar, "minutes", wrong, lambda: calendar.delay("ann", "last", wrong))

    def test_lengthen(self):
        calendar = Calendar(example_ways(), example())
        for name, n in (("first", 5), ("both", 0), ("first", 100), ("last", 590)):
            ways = example_ways()
            right = Day(ways, bigger(calendar.day, name, n), calendar.day.people)
            self.takes(calendar, right, lambda: calendar.lengthen(name, n))
        for wrong in STRANGE + ["ann"]:
            self.no_name(calendar, wrong, lambda: calendar.lengthen(wrong, -1))
        for wrong in [-1] + NO_INTEGERS:
            self.no_number(calendar, "minutes", wrong, lambda: calendar.lengthen("first", wrong))

    def test_lengthen_beyond_the_limit(self):
        calendar = Calendar(example_ways(), longer(example(), 2))
        calendar.lengthen("first", 571)
        self.assertEqual(calendar.day["first"].length, 601)
        calendar.lengthen("first", 10 ** 12)
        self.assertEqual(calendar.day["first"].length, 10 ** 12 + 601)
        self.assertEqual(calendar.day.people, example().people)
        self.assertEqual((calendar.day["first"].opens, calendar.day["first"].latest), (20, 25))
        for leg in calendar.day.legs:
            self.assertEqual(calendar.day.leg_map(*leg), example().leg_map(*leg) + 2)
        calendar.move("first", 21)
        calendar.leave("bob", 3)
        calendar.put(NEW, {"ann": 3})
        calendar.delay("bob", "both", 1)
        self.assertEqual(calendar.day["first"].length, 10 ** 12 + 601)
        self.assertEqual(earliest(calendar.day)["both"], 10 ** 12 + 601 + 21 + 5 + 2)
        calendar.drop("first")
        self.assertEqual(earliest(calendar.day)["both"], 70)
        for _ in range(6):
            calendar.undo()
        self.assertEqual(calendar.day["first"].length, 601)

    def test_leave(self):
        calendar = Calendar(example_ways(), example())
        for person, minute in (("ann", 0), ("bob", 2880), ("ann", 7)):
            right = leaving(calendar.day, person, minute)
            self.takes(calendar, right, lambda: calendar.leave(person, minute))
        for wrong in STRANGE + ["first"]:
            self.no_name(calendar, wrong, lambda: calendar.leave(wrong, -1))
        for wrong in [-1, 2881] + NO_INTEGERS:
            self.no_number(calendar, "leaves", wrong, lambda: calendar.leave("ann", wrong))

    def test_put(self):
        calendar = Calendar(example_ways(), longer(example(), 3))
        for gaps in ({}, {"ann": 1}, {"bob": 0, "ann": 0}):
            meeting = Meeting("new" + "xyz"[len(gaps)], "a" if gaps == {} else "b", 0, 300, 12)
            right = with_meeting(calendar.day, example_ways(), meeting, gaps)
            told = dict(gaps)
            self.takes(calendar, right, lambda: calendar.put(meeting, gaps))
            self.assertEqual(gaps, told)
        self.assertEqual(calendar.day.leg_map("bob", "both"), Rising.stay())
        self.assertEqual(calendar.day.leg_map("ann", "last"), Rising.steady(3))

    def test_put_refused(self):
        calendar = Calendar(example_ways(), example())
        calendar.move("first", 21)
        for wrong in STRANGE + ["first"]:
            self.no_name(calendar, wrong, lambda: calendar.put(Meeting("first", "zz", 0, 9, 1), {wrong: -1}))
        self.no_name(calendar, "first", lambda: calendar.put(Meeting("first", "zz", 0, 9, 1), {"ann": -1}))
        self.no_name(calendar, "zz", lambda: calendar.put(Meeting("new", "zz", 0, 9, 1), {"ann": -1}))
        for wrong in [-1, 4] + NO_INTEGERS:
            self.no_number(calendar, "gap", wrong, lambda: calendar.put(NEW, {"bob": 0, "ann": wrong}))
        self.no_way(calendar, "a", "c", lambda: calendar.put(Meeting("new", "c", 0, 9, 1), {"ann": 1}))
        self.stays(calendar, BadRing, lambda: calendar.put(NEW, {"ann": 3, "bob": 0}))
        for name in "klmnopq":
            calendar.put(Meeting(name, "a", 0, 9, 1), {})
        self.no_number(calendar, "meetings", 11, lambda: calendar.put(NEW, {"ann": -1}))

    def test_undo(self):
        calendar = Calendar(example_ways(), example())
        self.stays(calendar, NothingToUndo, calendar.undo)
        days = []
        for call in (
            lambda: calendar.move("first", 22), lambda: calendar.delay("ann", "last", 3),
            lambda: calendar.lengthen("both", 700), lambda: calendar.leave("bob", 4),
            lambda: calendar.put(NEW, {"ann": 0}), lambda: calendar.drop("both"),
            lambda: calendar.do_all(("leave", "ann", 1), ("leave", "bob", 1)),
        ):
            days.append(calendar.day)
            self.assertEqual(calendar.depth, len(days) - 1)
            call()
            self.assertNotEqual(calendar.day, days[-1])
        self.assertEqual(calendar.depth, 7)
        while days:
            self.assertIsNone(calendar.undo())
            self.assertEqual(calendar.day, days.pop())
            self.assertEqual(calendar.depth, len(days))
        self.assertEqual(calendar.day, example())
        self.stays(calendar, NothingToUndo, calendar.undo)
        calendar.leave("bob", 4)
        self.assertEqual((calendar.depth, calendar.day), (1, leaving(example(), "bob", 4)))


class Drop(CalendarCase):
    def check_drop(self, calendar, name):
        """Every part of the new day; the legs behind the meeting are read from the ways."""
        day, ways = calendar.day, calendar.ways.copy()
        self.assertIsNone(calendar.drop(name))
        made = calendar.day
        self.assertEqual(made.meetings, tuple([meeting for meeting in day.meetings if meeting.name != name]))
        self.assertEqual(len(made.people), len(day.people))
        for old, new in zip(day.people, made.people):
            row = [other for other in old.meetings if other != name]
            self.assertEqual(new, Person(old.name, old.home, old.leaves, *row))
            here = old.home
            for place, other in enumerate(row):
                fresh = name in old.meetings and old.meetings.index(name) == place
                way = ways[here, day[other].place] if fresh else day.leg_map(old.name, other)
                self.assertEqual(made.leg_map(old.name, other), way, (old.name, other))
                here = day[other].place
        self.assertEqual(made.legs, tuple([leg for leg in day.legs if leg[1] != name]))
        self.assertEqual(made.order(), Day(ways, made.meetings, made.people).order())

    def test_each_meeting_of_a_row(self):
        for name in ("first", "both", "last"):
            calendar = Calendar(example_ways(), longer(example(), 3))
            self.check_drop(calendar, name)
            self.assertEqual(calendar.depth, 1)
            calendar.undo()
            self.assertEqual((calendar.day, calendar.depth), (longer(example(), 3), 0))

    def test_the_leg_behind_loses_its_delay(self):
        day = longer(example(), 3)
        calendar = Calendar(example_ways(), day)
        calendar.drop("first")
        self.assertEqual(calendar.day.leg_map("ann", "both"), by_slots(60, [20, 5]))
        self.assertEqual(calendar.day.leg_map("ann", "last"), Rising.steady(3))
        self.assertEqual(calendar.day.leg_map("bob", "both"), Rising.steady(33))
        calendar.load(day)
        calendar.drop("both")
        self.assertEqual(calendar.day.leg_map("ann", "last"), by_slots(60, [20, 5]))
        self.assertEqual(calendar.day.leg_map("ann", "first"), Rising.steady(3))
        self.assertEqual(calendar.day.people[1].meetings, ())
        calendar.load(day)
        calendar.drop("last")
        self.assertEqual(calendar.day.leg_map("ann", "both"), by_slots(60, [20, 5]) + 3)

    def test_until_no_meeting_is_left(self):
        calendar = Calendar(example_ways(), example())
        for name in ("both", "first", "last"):
            self.check_drop(calendar, name)
        self.assertEqual((len(calendar.day), calendar.day.legs, calendar.depth), (0, (), 3))
        self.no_name(calendar, "last", lambda: calendar.drop("last"))

    def test_meetings_of_several_people(self):
        ways = Ways("a", "b", "c")
        for start, end, minutes in (("a", "b", 4), ("b", "a", 5), ("b", "c", 6), ("c", "a", 7), ("a", "c", 30)):
            ways[start, end] = Rising.steady(minutes)
        meetings = [Meeting(name, place, 0, 900, 5) for name, place in zip(("one", "two", "three", "four"), "abca")]
        people = [
            Person("ann", "a", 0, "one", "two", "three"), Person("bob", "c", 0, "two", "four"),
            Person("cy", "b", 0, "one", "two"), Person("dan", "b", 0, "three"),
        ]
        calendar = Calendar(ways, longer(Day(ways, meetings, people), 9))
        self.check_drop(calendar, "two")
        self.assertEqual(calendar.day.leg_map("ann", "three"), Rising.steady(10))
        self.assertEqual(calendar.day.leg_map("bob", "four"), Rising.steady(7))
        self.assertEqual(calendar.day.leg_map("ann", "one"), Rising.steady(9))
        self.assertEqual(calendar.day.leg_map("dan", "three"), Rising.steady(15))

    def test_many_days(self):
        rng = random.Random(421)
        for day, parts in some_days(422, 80):
            for leg in day.legs:
                if rng.random() < 0.5:
                    day = longer(day, rng.randint(1, 9), leg)
            calendar = Calendar(made_ways(parts[0]) + rng.randint(0, 2), day)
            names = [meeting.name for meeting in day.meetings]
            rng.shuffle(names)
            for name in names:
                self.check_drop(calendar, name)
            for _ in names:
                calendar.undo()
            self.assertEqual(calendar.day, day)

    def test_a_meeting_that_was_put_in(self):
        """Put in and dropped again: the day is as before but for the delay of the leg behind."""
        day = longer(example(), 3, ("ann", "both"))
        calendar = Calendar(example_ways(), day)
        calendar.put(NEW, {"ann": 1})
        calendar.drop("new")
        self.assertEqual(calendar.day, example())

    def test_missing_ways(self):
        """The old ways of the day are gone, for the first attendee or for the second one."""
        ways = Ways("a", "b", "c")
        names = [("one", "a"), ("two", "b"), ("three", "c")]
        meetings = [Meeting(name, place, 0, 900, 5) for name, place in names]
        people = [Person("ann", "a", 0, "one", "two", "three"), Person("bob", "b", 0, "two", "three")]
        for start, end in ("ab", "bc", "ca"):
            ways[start, end] = Rising.steady(5)
        day = Day(ways, meetings, people)
        for told, start, end in (([], "a", "c"), (["ac"], "b", "c"), (["bc"], "a", "c"), (["ab", "ba"], "a", "c")):
            less = Ways("a", "b", "c")
            for pair in told:
                less[pair[0], pair[1]] = Rising.steady(1)
            calendar = Calendar(less, day)
            calendar.leave("ann", 3)
            self.no_way(calendar, start, end, lambda: calendar.drop("two"))
            self.assertIsNone(calendar.drop("three"))
        calendar = Calendar(Ways("a", "b", "c"), day)
        self.assertIsNone(calendar.drop("three"))
        self.no_way(calendar, "a", "b", lambda: calendar.drop("one"))
        self.assertIsNone(calendar.drop("two"))
        self.assertEqual(calendar.day.people[0].meetings, ("one",))

    def test_places_that_the_ways_do_not_have(self):
        calendar = Calendar(Ways("a", "b"), example())
        self.assertIsNone(calendar.drop("last"))
        self.no_way(calendar, "a", "b", lambda: calendar.drop("first"))
        meetings = [Meeting("one", "x", 0, 9, 1), Meeting("two", "x", 0, 9, 1)]
        calendar.load(Day(Ways("x"), meetings, [Person("ann", "x", 0, "one", "two")]))
        self.no_name(calendar, "x", lambda: calendar.drop("one"))
        self.assertIsNone(calendar.drop("two"))
        for places in ("axx", "xaa", "xxa", "aax"):
            ways = Ways("a", "x")
            ways["a", "x"] = ways["x", "a"] = Rising.steady(3)
            meetings = [Meeting(name, place, 0, 9, 1) for name, place in zip(("one", "two", "three"), places)]
            calendar.load(Day(ways, meetings, [Person("ann", places[0], 0, "one", "two", "three")]))
            self.no_name(calendar, "x", lambda: calendar.drop("two"))
            self.assertIsNone(calendar.drop("three"))

    def test_names_come_before_ways(self):
        """For the first attendee there is no way, for the second one not even the place."""
        ways = Ways("a", "b", "x")
        ways["a", "b"] = ways["b", "a"] = ways["a", "x"] = Rising.steady(3)
        meetings = [Meeting(name, place, 0, 900, 1) for name, place in zip(("one", "two", "three"), "abx")]
        people = [Person("ann", "a", 0, "one", "two"), Person("bob", "a", 0, "one", "three")]
        calendar = Calendar(Ways("b", "a"), Day(ways, meetings, people))
        self.no_name(calendar, "x", lambda: calendar.drop("one"))
        calendar.drop("three")
        self.no_way(calendar, "a", "b", lambda: calendar.drop("one"))

    def test_errors(self):
        calendar = Calendar(example_ways(), example())
        for wrong in STRANGE + ["ann"]:
            self.no_name(calendar, wrong, lambda: calendar.drop(wrong))


class DoAll(CalendarCase):
    def bad_deed(self, calendar, place, deeds, kind=None):
        error = self.stays(calendar, BadDeed, lambda: calendar.do_all(*deeds))
        self.assertEqual(error.place, place)
        self.assertIs(error.place.__class__, int)
        self.assertIs(error.__cause__.__class__, type(None) if kind is None else kind)
        return error.__cause__

    def test_each_deed(self):
        deeds = [
            ("move", "first", 22), ("delay", "ann", "last", 3), ("lengthen", "both", 700), ("leave", "bob", 4),
            ("put", NEW, {"ann": 0}), ("drop", "both"),
        ]
        one, two = Calendar(example_ways(), example()), Calendar(example_ways(), example())
        one.move("first", 22)
        one.delay("ann", "last", 3)
        one.lengthen("both", 700)
        one.leave("bob", 4)
        one.put(NEW, {"ann": 0})
        one.drop("both")
        self.takes(two, one.day, lambda: two.do_all(*deeds))
        self.assertEqual((one.depth, two.depth), (6, 1))
        for deed in deeds:
            alone, method = Calendar(example_ways(), example()), Calendar(example_ways(), example())
            {
                "move": method.move, "delay": method.delay, "lengthen": method.lengthen, "leave": method.leave,
                "put": method.put, "drop": method.drop,
            }[deed[0]](*deed[1:])
            self.takes(alone, method.day, lambda: alone.do_all(deed))

    def test_no_deeds(self):
        calendar = Calendar(example_ways(), example())
        self.takes(calendar, example(), calendar.do_all)
        self.assertEqual(calendar.depth, 1)
        calendar.do_all()
        self.assertEqual(calendar.depth, 2)

    def test_each_deed_on_the_day_of_the_one_before(self):
        calendar = Calendar(example_ways(), example())
        calendar.do_all(("put", NEW, {"ann": 1}), ("delay", "ann", "new", 5), ("move", "new", 66), ("drop", "both"))
        self.assertEqual(calendar.day.leg_map("ann", "new"), by_slots(60, [20, 5]) + 5)
        self.assertEqual(calendar.day["new"].opens, 66)
        self.bad_deed(calendar, 1, [("drop", "new"), ("move", "new", 66)], BadName)

    def test_the_first_wrong_one(self):
        calendar = Calendar(example_ways(), example())
        calendar.leave("ann", 2)
        good = ("leave", "bob", 7)
        wrong = [
            (("move", "first", -1), BadNumber), (("move", "none", -1), BadName),
            (("delay", "ann", "last", -1), BadNumber), (("delay", "bob", "last", -1), BadName),
            (("lengthen", "none", 3), BadName),
            (("lengthen", "last", None), BadNumber),
            (("leave", "ann", 2881), BadNumber), (("leave", "first", 1), BadName),
            (("put", NEW, {"ann": 4}), BadNumber), (("put", NEW, {"zed": 4}), BadName),
            (("put", NEW, {"ann": 3, "bob": 0}), BadRing), (("put", Meeting("new", "c", 0, 9, 1), {"ann": 1}), BadWay),
            (("drop", "none"), BadName), (("undo",), None), (("load", example()), None), (("do_all",), None),
            (("day", example()), None), (("", 1), None), ((None, 1), None), ((5,), None), ((), None),
            (("Move", "first", 20), None),
        ]
        for deed, kind in wrong:
            self.bad_deed(calendar, 0, [deed], kind)
            self.bad_deed(calendar, 0, [deed, good, wrong[0][0]], kind)
            self.bad_deed(calendar, 2, [good, good, deed, good], kind)
            self.bad_deed(calendar, 2, [("delay", "ann", "last", 1), good, deed, ("undo",)], kind)
        cause = self.bad_deed(calendar, 1, [good, ("move", "first", 2881)], BadNumber)
        self.assertEqual((cause.what, cause.value), ("minute", 2881))
        cause = self.bad_deed(calendar, 0, [("put", Meeting("new", "c", 0, 9, 1), {"ann": 1})], BadWay)
        self.assertEqual((cause.start, cause.end), ("a", "c"))

    def test_refused_deeds_can_be_undone_no_more_than_before(self):
        calendar = Calendar(example_ways(), example())
        self.bad_deed(calendar, 1, [("leave", "bob", 7), ("leave", "zed", 7)], BadName)
        self.stays(calendar, NothingToUndo, calendar.undo)

    def test_what_was_passed_stays(self):
        gaps = {"ann": 1}
        deed = ("put", NEW, gaps)
        calendar = Calendar(example_ways(), example())
        calendar.do_all(deed)
        self.assertEqual((deed, gaps), (("put", NEW, {"ann": 1}), {"ann": 1}))


class Beside(CalendarCase):
    def test_against_days_that_are_kept_beside(self):
        """Many deeds, right and wrong, with all days in a list."""
        rng = random.Random(423)
        seen = {}
        for day, parts in some_days(424, 25):
            ways = made_ways(parts[0])
            calendar = Calendar(ways, day)
            days = [day]
            names = [meeting.name for meeting in day.meetings] + ["none", "new"]
            people = [person.name for person in day.people] + ["zed"]
            for _ in range(40):
                word = rng.choice(["move", "delay", "leave", "put", "undo", "undo", "all"])
                name, person, minute = rng.choice(names), rng.choice(people), rng.choice([-1, 0, 3, 20, 2881])
                meeting = Meeting("new", rng.choice("abc"), 0, 90, 5)
                gaps = {person: rng.randint(0, 3)}
                functions = {
                    "move": lambda: fixed(days[-1], name, minute), "leave": lambda: leaving(days[-1], person, minute),
                    "delay": lambda: longer(days[-1], minute, (person, name)),
                    "put": lambda: with_meeting(days[-1], ways, meeting, gaps),
                    "all": lambda: leaving(fixed(days[-1], name, minute), person, minute),
                }
                methods = {
                    "move": lambda: calendar.move(name, minute), "leave": lambda: calendar.leave(person, minute),
                    "delay": lambda: calendar.delay(person, name, minute), "put": lambda: calendar.put(meeting, gaps),
                    "all": lambda: calendar.do_all(("move", name, minute), ("leave", person, minute)),
                }
                if word == "undo":
                    if len(days) > 1:
                        calendar.undo()
                        days.pop()
                    else:
                        self.stays(calendar, NothingToUndo, calendar.undo)
                else:
                    try:
                        days.append(functions[word]())
                        methods[word]()
                        kind = None
                    except CalendarError as error:
                        kind = error.__class__
                        self.stays(calendar, BadDeed if word == "all" else kind, methods[word])
                    seen[word, kind is None] = seen.get((word, kind is None), 0) + 1
                self.assertEqual((calendar.day, calendar.depth), (days[-1], len(days) - 1))
        self.assertTrue(all(many > 5 for many in seen.values()) and len(seen) == 10, seen)


if __name__ == "__main__":
    unittest.main()

"""Points 14 to 17: meetings, people and days."""

import graphlib
import itertools
import random
import unittest

from laterways.day import Day, Meeting, Person
from laterways.errors import BadName, BadNumber, BadRing, BadWay
from laterways.rising import Rising
from laterways.slots import by_slots
from laterways.ways import Ways
from test_ways import NO_NAMES, WaysCase

NO_INTEGERS = [True, False, None, "5", 5.0, (5,)]


def some_ways():
    """From a to b to c and back, but no way from d."""
    ways = Ways("a", "b", "c", "d")
    ways["a", "b"] = by_slots(60, [20, 5])
    ways["b", "c"] = Rising.steady(10)
    ways["c", "a"] = Rising.steady(15)
    return ways


def some_meetings():
    return [Meeting("one", "a", 0, 100, 30), Meeting("two", "b", 60, 200, 45), Meeting("three", "c", 0, 300, 0)]


def some_people():
    return [Person("ann", "a", 10, "one", "two"), Person("bob", "b", 0, "three"), Person("cy", "c", 5)]


def some_day():
    return Day(some_ways(), some_meetings(), some_people())


def plain_ways():
    """All ways between three places take no time."""
    ways = Ways("a", "b", "c")
    for pair in itertools.permutations("abc", 2):
        ways[pair] = Rising.stay()
    return ways


def meetings_named(names):
    return [Meeting(name, "a", 0, 100, 5) for name in names]


class Point14Meeting(WaysCase):
    def test_attributes(self):
        meeting = Meeting("talk", "office", 5, 90, 30)
        self.assertEqual(vars(meeting), {"name": "talk", "place": "office", "opens": 5, "latest": 90, "length": 30})

    def test_arguments_by_their_names(self):
        meeting = Meeting(length=30, latest=90, opens=5, place="office", name="talk")
        self.assertEqual(meeting, Meeting("talk", "office", 5, 90, 30))

    def test_limits(self):
        for parts in ((0, 0, 0), (0, 2880, 600), (2880, 2880, 1), (7, 7, 599)):
            meeting = Meeting("talk", "office", *parts)
            self.assertEqual((meeting.opens, meeting.latest, meeting.length), parts)

    def test_name_first(self):
        for wrong in NO_NAMES:
            self.bad_name(wrong, lambda: Meeting(wrong, "office", 5, 90, 30))
            self.bad_name(wrong, lambda: Meeting(wrong, "", -1, -1, -1))

    def test_then_the_place(self):
        for wrong in NO_NAMES:
            self.bad_name(wrong, lambda: Meeting("talk", wrong, 5, 90, 30))
            self.bad_name(wrong, lambda: Meeting("talk", wrong, -1, -1, -1))

    def test_then_opens(self):
        for wrong in [-1, 2881] + NO_INTEGERS:
            self.bad_number("opens", wrong, lambda: Meeting("talk", "office", wrong, 90, 30))
            self.bad_number("opens", wrong, lambda: Meeting("talk", "office", wrong, -1, -1))

    def test_then_latest(self):
        for wrong in [-1, 4, 2881] + NO_INTEGERS:
            self.bad_number("latest", wrong, lambda: Meeting("talk", "office", 5, wrong, 30))
            self.bad_number("latest", wrong, lambda: Meeting("talk", "office", 5, wrong, -1))

    def test_then_the_length(self):
        for wrong in [-1, 601] + NO_INTEGERS:
            self.bad_number("length", wrong, lambda: Meeting("talk", "office", 5, 90, wrong))

    def test_equal_if_all_parts_are(self):
        parts = ["talk", "office", 5, 90, 30]
        self.assertTrue(Meeting(*parts) == Meeting(*parts))
        self.assertFalse(Meeting(*parts) != Meeting(*parts))
        for at, other in enumerate(["walk", "home", 6, 91, 31]):
            self.assertFalse(Meeting(*parts) == Meeting(*parts[:at], other, *parts[at + 1:]))
            self.assertTrue(Meeting(*parts) != Meeting(*parts[:at], other, *parts[at + 1:]))
        for other in (None, "talk", tuple(parts), Person("talk", "office", 5)):
            self.assertFalse(Meeting(*parts) == other)


class Point14Person(WaysCase):
    def test_attributes(self):
        person = Person("ann", "home", 5, "one", "two")
        self.assertEqual(vars(person), {"name": "ann", "home": "home", "leaves": 5, "meetings": ("one", "two")})
        self.assertEqual(Person("ann", "home", 0).meetings, ())
        self.assertEqual(Person("ann", "home", 2880).leaves, 2880)
        self.assertEqual(Person(leaves=5, home="home", name="ann"), Person("ann", "home", 5))

    def test_name_first(self):
        for wrong in NO_NAMES:
            self.bad_name(wrong, lambda: Person(wrong, "home", 5, "one"))
            self.bad_name(wrong, lambda: Person(wrong, "", -1, "", ""))

    def test_then_the_home(self):
        for wrong in NO_NAMES:
            self.bad_name(wrong, lambda: Person("ann", wrong, 5, "one"))
            self.bad_name(wrong, lambda: Person("ann", wrong, -1, "", ""))

    def test_then_leaves(self):
        for wrong in [-1, 2881] + NO_INTEGERS:
            self.bad_number("leaves", wrong, lambda: Person("ann", "home", wrong, "one"))
            self.bad_number("leaves", wrong, lambda: Person("ann", "home", wrong, "", ""))

    def test_then_the_row(self):
        for wrong in NO_NAMES:
            self.bad_name(wrong, lambda: Person("ann", "home", 5, wrong))
            self.bad_name(wrong, lambda: Person("ann", "home", 5, "one", wrong, "one"))
        self.bad_name("one", lambda: Person("ann", "home", 5, "one", "one"))
        self.bad_name("one", lambda: Person("ann", "home", 5, "one", "two", "one", ""))
        self.bad_name("two", lambda: Person("ann", "home", 5, "one", "two", "two", "one"))

    def test_equal_if_all_parts_are(self):
        parts = ["ann", "home", 5, "one", "two"]
        self.assertTrue(Person(*parts) == Person(*parts))
        self.assertFalse(Person(*parts) != Person(*parts))
        for at, other in enumerate(["bob", "office", 6, "three", "four"]):
            self.assertFalse(Person(*parts) == Person(*parts[:at], other, *parts[at + 1:]))
        self.assertFalse(Person(*parts) == Person(*parts[:-1]))
        self.assertFalse(Person(*parts) == Person("ann", "home", 5, "two", "one"))
        for other in (None, "ann", tuple(parts)):
            self.assertFalse(Person(*parts) == other)


class Point15(WaysCase):
    def test_number_of_meetings(self):
        names = list("abcdefghijk")
        self.assertEqual(len(Day(plain_ways(), meetings_named(names[:10]), [])), 10)
        self.bad_number("meetings", 11, lambda: Day(plain_ways(), meetings_named(names), []))
        people = [Person("ann", "zz", 0, "none") for _ in range(5)]
        self.bad_number("meetings", 11, lambda: Day(plain_ways(), meetings_named(["a"] * 11), people))

    def test_number_of_people(self):
        people = [Person(name, "a", 0) for name in "abcde"]
        self.assertEqual(len(Day(plain_ways(), [], people[:4]).people), 4)
        self.bad_number("people", 5, lambda: Day(plain_ways(), [], people))
        self.bad_number("people", 5, lambda: Day(plain_ways(), meetings_named(["x", "x"]), people))

    def test_no_meetings_and_no_people(self):
        day = Day(plain_ways(), [], [])
        self.assertEqual((len(day), day.meetings, day.people, day.legs, day.order()), (0, (), (), (), []))

    def test_meetings_in_order(self):
        good, wrong = Meeting("one", "a", 0, 1, 1), Meeting("two", "nowhere", 0, 1, 1)
        people = [Person("ann", "zz", 0, "none")]
        self.bad_name("one", lambda: Day(plain_ways(), [good, good], people))
        self.bad_name("nowhere", lambda: Day(plain_ways(), [wrong], people))
        self.bad_name("nowhere", lambda: Day(plain_ways(), [wrong, good, good], people))
        self.bad_name("one", lambda: Day(plain_ways(), [good, good, wrong], people))
        self.bad_name("one", lambda: Day(plain_ways(), [good, Meeting("one", "nowhere", 0, 1, 1)], people))
        self.bad_name("nowhere", lambda: Day(plain_ways(), [good, wrong, good], people))

    def test_people_in_order(self):
        meetings = meetings_named(["one", "two"])

        def refused(name, *people):
            self.bad_name(name, lambda: Day(plain_ways(), meetings, people))
        good, lost = Person("ann", "a", 0, "one"), Person("bob", "nowhere", 0, "none")
        refused("ann", good, good)
        refused("ann", good, Person("ann", "nowhere", 0, "none"))
        refused("nowhere", lost)
        refused("nowhere", good, lost, good)
        refused("none", Person("bob", "a", 0, "none"))
        refused("none", Person("bob", "a", 0, "one", "none", "other"))
        refused("other", Person("bob", "a", 0, "one"), Person("cy", "a", 0, "two", "other", "none"))
        refused("none", Person("bob", "a", 0, "none"), Person("bob", "a", 0))
        refused("none", Person("bob", "a", 0, "none"), lost)

    def test_a_person_and_a_meeting_may_have_one_name(self):
        day = Day(plain_ways(), meetings_named(["ann"]), [Person("ann", "a", 0, "ann")])
        self.assertEqual(day.legs, (("ann", "ann"),))

    def test_missing_ways(self):
        meetings = [Meeting("one", "b", 0, 9, 1), Meeting("two", "d", 0, 9, 1), Meeting("three", "d", 0, 9, 1)]

        def refused(start, end, *people):
            self.bad_way(start, end, lambda: Day(some_ways(), meetings, people))
        refused("d", "b", Person("ann", "d", 0, "one"))
        refused("b", "d", Person("ann", "a", 0, "one", "two"))
        refused("c", "d", Person("ann", "a", 0, "one"), Person("bob", "c", 0, "two", "one"))
        refused("d", "b", Person("ann", "a", 0, "one"), Person("bob", "d", 0, "two", "three", "one"))
        refused("a", "d", Person("ann", "a", 0, "two"), Person("bob", "d", 0, "one"))
        stays = Day(some_ways(), meetings, [Person("ann", "d", 0, "two", "three")])
        self.assertEqual(stays.leg_map("ann", "two"), Rising.stay())
        self.assertEqual(stays.leg_map("ann", "three"), Rising.stay())

    def test_people_come_before_ways(self):
        meetings = [Meeting("one", "b", 0, 9, 1)]
        people = [Person("ann", "d", 0, "one"), Person("bob", "nowhere", 0)]
        self.bad_name("nowhere", lambda: Day(some_ways(), meetings, people))

    def test_ways_come_before_rings(self):
        meetings = [Meeting("one", "a", 0, 9, 1), Meeting("two", "a", 0, 9, 1)]
        people = [Person("ann", "a", 0, "one", "two"), Person("bob", "a", 0, "two", "one"), Person("cy", "d", 0, "one")]
        self.bad_way("d", "a", lambda: Day(some_ways(), meetings, people))
        self.bad_ring(lambda: Day(some_ways(), meetings, people[:2]), people[:2])

    def bad_ring(self, call, people):
        with self.assertRaises(BadRing) as held:
            call()
        names = held.exception.names
        self.assertIs(names.__class__, list)
        self.assertTrue(len(names) > 1)
        self.assertEqual(len(set(names)), len(names))
        steps = {pair for person in people for pair in zip(person.meetings, person.meetings[1:])}
        for pair in zip(names, names[1:] + names[:1]):
            self.assertIn(pair, steps)

    def test_rings(self):
        names = list("abcdefghij")
        for rows in (
            ["ab", "ba"], ["abc", "ca"], ["ab", "bc", "cd", "da"], ["jabc", "dcea"],
            ["abcdefghij", "ja"], ["ab", "cd", "dc"], ["jihg", "ghi"], ["abc", "dae", "eda"],
        ):
            people = [Person("p" + "abcd"[k], "a", 0, *row) for k, row in enumerate(rows)]
            self.bad_ring(lambda: Day(plain_ways(), meetings_named(names), people), people)

    def test_a_ring_just_if_there_is_one(self):
        rng = random.Random(71)
        seen = {True: 0, False: 0}
        for _ in range(400):
            names = list("abcdefghij"[:rng.randint(2, 10)])
            rng.shuffle(names)
            people = []
            for person in "abcd"[:rng.randint(1, 4)]:
                row = rng.sample(names, rng.randint(0, min(4, len(names))))
                people.append(Person(person, "a", 0, *row))
            graph = graphlib.TopologicalSorter()
            for person in people:
                for first, second in zip(person.meetings, person.meetings[1:]):
                    graph.add(second, first)
            try:
                graph.prepare()
                ring = False
            except graphlib.CycleError:
                ring = True
            seen[ring] += 1
            if ring:
                self.bad_ring(lambda: Day(plain_ways(), meetings_named(names), people), people)
            else:
                self.assertEqual(len(Day(plain_ways(), meetings_named(names), people).order()), len(names))
        self.assertTrue(seen[True] > 50 and seen[False] > 50, seen)


class Point16(WaysCase):
    def test_attributes(self):
        day = some_day()
        self.assertEqual(day.meetings, tuple(some_meetings()))
        self.assertEqual(day.people, tuple(some_people()))
        self.assertEqual(day.legs, (("ann", "one"), ("ann", "two"), ("bob", "three")))
        for part in (day.meetings, day.people, day.legs, day.legs[0]):
            self.assertIs(part.__class__, tuple)

    def test_legs_are_ordered_by_people_and_rows(self):
        people = [Person("zed", "a", 0, "three", "one"), Person("ann", "a", 0, "two", "one")]
        day = Day(some_ways(), some_meetings(), people)
        self.assertEqual(day.legs, (("zed", "three"), ("zed", "one"), ("ann", "two"), ("ann", "one")))

    def test_items(self):
        day = some_day()
        self.assertEqual(day["two"], Meeting("two", "b", 60, 200, 45))
        self.assertEqual([day[meeting.name] for meeting in day.meetings], some_meetings())
        for wrong in NO_NAMES + ["ann", "four"]:
            self.bad_name(wrong, lambda: day[wrong])
            self.assertIs(wrong in day, False)
        self.assertIs("two" in day, True)
        self.assertEqual(len(day), 3)

    def test_leg_map(self):
        day = some_day()
        self.assertEqual(day.leg_map("ann", "one"), Rising.stay())
        self.assertEqual(day.leg_map("ann", "two"), by_slots(60, [20, 5]))
        self.assertEqual(day.leg_map("bob", "three"), Rising.steady(10))

    def test_leg_map_by_other_places(self):
        day = Day(some_ways(), some_meetings(), [Person("ann", "b", 10, "one", "three")])
        self.assertEqual(day.leg_map("ann", "one"), Rising.steady(25))
        self.assertEqual(day.leg_map("ann", "three"), by_slots(60, [20, 5]) + 10)

    def test_leg_map_refused(self):
        day = some_day()
        for wrong in NO_NAMES + ["one", "dan"]:
            self.bad_name(wrong, lambda: day.leg_map(wrong, "one"))
            self.bad_name(wrong, lambda: day.leg_map(wrong, "none"))
        for wrong in NO_NAMES + ["ann", "three", "none"]:
            self.bad_name(wrong, lambda: day.leg_map("ann", wrong))
        self.bad_name("one", lambda: day.leg_map("cy", "one"))

    def test_attendees(self):
        people = [Person("zed", "a", 0, "three", "one"), Person("ann", "a", 0, "two", "one"), Person("cy", "a", 0)]
        day = Day(some_ways(), some_meetings(), people)
        self.assertEqual(day.attendees("one"), ["zed", "ann"])
        self.assertEqual(day.attendees("two"), ["ann"])
        self.assertEqual(Day(some_ways(), some_meetings(), []).attendees("one"), [])
        for wrong in NO_NAMES + ["zed", "none"]:
            self.bad_name(wrong, lambda: day.attendees(wrong))

    def test_order_in_another_order_than_told(self):
        meetings = meetings_named("abcd")
        people = [Person("ann", "a", 0, "d", "b"), Person("bob", "a", 0, "c", "a")]
        self.assertEqual(Day(plain_ways(), meetings, people).order(), ["c", "a", "d", "b"])
        self.assertEqual(Day(plain_ways(), meetings, []).order(), ["a", "b", "c", "d"])
        people = [Person("ann", "a", 0, "d", "c", "b", "a")]
        self.assertEqual(Day(plain_ways(), meetings, people).order(), ["d", "c", "b", "a"])

    def test_order_takes_the_first_that_may_come_next(self):
        rng = random.Random(72)
        many = 0
        for _ in range(150):
            names = list("abcde"[:rng.randint(1, 5)])
            rng.shuffle(names)
            rows = [rng.sample(names, rng.randint(0, min(3, len(names)))) for _ in range(rng.randint(0, 3))]
            steps = {pair for row in rows for pair in zip(row, row[1:])}
            right = [
                order for order in itertools.permutations(names)
                if all(order.index(first) < order.index(second) for first, second in steps)
            ]
            if right:
                people = [Person("p" + "abc"[k], "a", 0, *row) for k, row in enumerate(rows)]
                found = Day(plain_ways(), meetings_named(names), people).order()
                self.assertEqual(found, list(min(right, key=lambda order: [names.index(x) for x in order])))
                many += 1
        self.assertTrue(many > 60)

    def test_returned_lists_are_new(self):
        day = some_day()
        day.order().clear()
        day.attendees("one").append("zed")
        self.assertEqual(day.order(), ["one", "two", "three"])
        self.assertEqual(day.attendees("one"), ["ann"])

    def test_lists_that_were_passed_change_no_day(self):
        meetings, people = some_meetings(), some_people()
        day = Day(some_ways(), meetings, people)
        meetings.reverse()
        people.clear()
        self.assertEqual(day, some_day())
        self.assertEqual(day.order(), some_day().order())

    def test_tuples_for_lists(self):
        self.assertEqual(Day(some_ways(), tuple(some_meetings()), tuple(some_people())), some_day())

    def test_ways_told_anew_change_no_day(self):
        ways = some_ways()
        day = Day(ways, some_meetings(), some_people())
        ways["a", "b"] = Rising.steady(1000)
        ways["b", "c"] = Rising.steady(1000)
        self.assertEqual(day.leg_map("ann", "two"), by_slots(60, [20, 5]))
        self.assertEqual(day, some_day())

    def test_a_day_is_not_iterated_over(self):
        with self.assertRaises(TypeError):
            list(some_day())

    def test_equal(self):
        self.assertTrue(some_day() == some_day())
        self.assertFalse(some_day() != some_day())
        for other in (None, 3, "one", tuple(some_meetings()), some_ways()):
            self.assertFalse(some_day() == other)

    def test_one_part_changed(self):
        ways, meetings, people = some_ways(), some_meetings(), some_people()
        for parts in (
            ("four", "a", 0, 100, 30), ("one", "b", 0, 100, 30), ("one", "a", 1, 100, 30), ("one", "a", 0, 101, 30),
            ("one", "a", 0, 100, 31),
        ):
            others = [Person("ann", "a", 10, parts[0], "two")] + people[1:]
            self.assertFalse(some_day() == Day(ways, [Meeting(*parts)] + meetings[1:], others), parts)
        for parts in (
            ("zed", "a", 10, "one", "two"), ("ann", "b", 10, "one", "two"), ("ann", "a", 11, "one", "two"),
            ("ann", "a", 10, "one"), ("ann", "a", 10, "one", "three"), ("ann", "a", 10, "two", "one"),
        ):
            self.assertFalse(some_day() == Day(ways, meetings, [Person(*parts)] + people[1:]), parts)
        self.assertFalse(some_day() == Day(ways, meetings[::-1], people))
        self.assertFalse(some_day() == Day(ways, meetings, people[::-1]))
        self.assertFalse(some_day() == Day(ways, meetings + [Meeting("four", "a", 0, 1, 1)], people))
        self.assertFalse(some_day() == Day(ways, meetings, people[:2]))

    def test_only_the_maps_of_the_legs_count(self):
        ways = some_ways()
        ways["c", "a"] = Rising.steady(500)
        self.assertTrue(Day(ways, some_meetings(), some_people()) == some_day())
        ways["b", "c"] = Rising.steady(11)
        self.assertFalse(Day(ways, some_meetings(), some_people()) == some_day())
        more = Ways("a", "b", "c")
        more["a", "b"] = by_slots(60, [20, 5])
        more["b", "c"] = Rising.steady(10)
        self.assertTrue(Day(more, some_meetings(), some_people()) == some_day())


class Point17(WaysCase):
    def other_day(self):
        """A day of other ways, with a place that the first ways do not have."""
        ways = Ways("x", "a")
        ways["x", "a"] = Rising.steady(77)
        ways["a", "x"] = Rising.since(40)
        people = [Person("dan", "x", 3, "five", "four")]
        return Day(ways, [Meeting("four", "x", 1, 2, 3), Meeting("five", "a", 4, 5, 6)], people)

    def test_joined(self):
        one, two = some_day(), self.other_day()
        both = one + two
        self.assertIs(both.__class__, Day)
        self.assertEqual(both.meetings, one.meetings + two.meetings)
        self.assertEqual(both.people, one.people + two.people)
        self.assertEqual(both.legs, one.legs + two.legs)
        self.assertEqual(len(both), 5)
        self.assertEqual(both["five"], two["five"])
        self.assertEqual(both.order(), ["one", "two", "three", "five", "four"])
        self.assertEqual(both.attendees("four"), ["dan"])
        for leg in one.legs:
            self.assertEqual(both.leg_map(*leg), one.leg_map(*leg))
        self.assertEqual(both.leg_map("dan", "five"), Rising.steady(77))
        self.assertEqual(both.leg_map("dan", "four"), Rising.since(40))
        self.assertNotEqual(both, two + one)

    def test_parts_stay_as_they_were(self):
        one, two = some_day(), self.other_day()
        one + two
        self.assertEqual((one, two), (some_day(), self.other_day()))
        self.assertEqual(one.order(), ["one", "two", "three"])

    def test_joined_with_an_empty_day(self):
        empty = Day(Ways("z"), [], [])
        self.assertEqual(some_day() + empty, some_day())
        self.assertEqual(empty + some_day(), some_day())
        self.assertEqual((empty + some_day()).order(), some_day().order())

    def test_equal_to_the_day_made_at_once(self):
        ways, meetings, people = some_ways(), some_meetings(), some_people()
        one = Day(ways, meetings[:2], people[:1])
        two = Day(ways, meetings[2:], people[1:])
        self.assertEqual(one + two, some_day())
        self.assertEqual((one + two).order(), some_day().order())

    def day_named(self, people, meetings):
        return Day(plain_ways(), meetings_named(meetings), [Person(name, "a", 0) for name in people])

    def test_refused(self):
        def refused(name, one, two):
            self.bad_name(name, lambda: self.day_named(*one) + self.day_named(*two))
        refused("ann", (["ann", "bob"], ["x"]), (["ann"], ["y"]))
        refused("bob", (["ann", "bob"], ["x"]), (["cy", "bob", "ann"], ["x"]))
        refused("x", (["ann", "bob"], ["y", "x"]), (["cy"], ["z", "x", "y"]))
        refused("ann", (["ann"], ["x"]), (["ann"], ["x"]))

    def test_a_person_of_one_and_a_meeting_of_the_other_may_have_one_name(self):
        both = self.day_named(["ann"], ["x"]) + self.day_named(["x"], ["ann"])
        self.assertEqual([meeting.name for meeting in both.meetings], ["x", "ann"])

    def test_too_many(self):
        def refused(what, count, one, two):
            self.bad_number(what, count, lambda: self.day_named(*one) + self.day_named(*two))
        refused("meetings", 11, ([], "abcdef"), ([], "ghijk"))
        refused("meetings", 11, ("abc", "abcdef"), ("de", "ghijk"))
        refused("people", 5, ("abc", "a"), ("de", "b"))
        self.bad_name("c", lambda: self.day_named("abc", "abcdef") + self.day_named("dce", "ghijk"))
        self.bad_name("f", lambda: self.day_named("abc", "abcdef") + self.day_named("de", "ghifk"))
        both = self.day_named("ab", "abcde") + self.day_named("cd", "fghij")
        self.assertEqual((len(both.people), len(both)), (4, 10))


if __name__ == "__main__":
    unittest.main()

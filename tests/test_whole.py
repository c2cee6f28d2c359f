"""Points 39 and 40: whole days as maps."""

import random
import unittest

from days import example, some_days
from laterways.changes import Changes, changed
from laterways.day import Day, Meeting, Person
from laterways.earliest import can_be_kept, earliest
from laterways.moves import fixed
from laterways.rising import Rising
from laterways.slack import longer
from laterways.slots import by_slots
from laterways.ways import Ways
from laterways.whole import end_map, latest_leaving, leaving, never_later, same_ends, start_map
from models import walk_starts
from test_day import NO_INTEGERS
from test_ways import NO_NAMES, WaysCase

MINUTES = list(range(0, 70)) + [100, 250, 1000, 2879, 2880]
STRANGE = NO_NAMES + ["zed", "u", "first"]


def others_days(seed, many, wide=40):
    """Drawn days, some with longer legs and meetings beyond the limit, with their people's names."""
    rng = random.Random(seed)
    found = []
    for day, parts in some_days(seed, many, wide=wide):
        if rng.random() < 0.3 and day.legs:
            day = longer(day, rng.randint(1, 9), rng.choice(day.legs))
        if rng.random() < 0.3:
            name = rng.choice(day.meetings).name
            day = changed(day, Changes({}, {name: 600}, 1), [name])
        found.append(day)
    return found


def late_day():
    """A day that cannot be kept, whenever Ann leaves."""
    meetings = [Meeting("one", "a", 0, 5, 20), Meeting("two", "a", 0, 9, 20)]
    return Day(Ways("a"), meetings, [Person("ann", "a", 6, "two"), Person("bob", "a", 6, "one")])


class Leaving(WaysCase):
    def test_only_the_minute_changes(self):
        for day in others_days(391, 50):
            before = [vars(person).copy() for person in day.people]
            for place, person in enumerate(day.people):
                for minute in (0, 17, 2880):
                    made = leaving(day, person.name, minute)
                    self.assertIs(made.__class__, Day)
                    told = Person(person.name, person.home, minute, *person.meetings)
                    self.assertEqual(made.people, day.people[:place] + (told,) + day.people[place + 1:])
                    self.assertEqual((made.meetings, made.legs, made.order()), (day.meetings, day.legs, day.order()))
                    for leg in day.legs:
                        self.assertEqual(made.leg_map(*leg), day.leg_map(*leg))
                self.assertEqual(leaving(day, person.name, person.leaves), day)
            self.assertEqual([vars(person) for person in day.people], before)

    def test_against_walks(self):
        for day, (roads, meetings, people) in some_days(392, 60):
            for place, (name, home, _, row) in enumerate(people):
                for minute in (0, 9, 31, 2880):
                    told = people[:place] + [(name, home, minute, row)] + people[place + 1:]
                    self.assertEqual(earliest(leaving(day, name, minute)), walk_starts(roads, meetings, told))

    def test_limits(self):
        day = example()
        self.assertEqual(leaving(day, "ann", 0).people[0].leaves, 0)
        self.assertEqual(leaving(day, "ann", 2880).people[0].leaves, 2880)
        for wrong in [-1, 2881] + NO_INTEGERS:
            self.bad_number("leaves", wrong, lambda: leaving(day, "ann", wrong))

    def test_the_person_first(self):
        for wrong in STRANGE:
            for minute in (5, -1, 2881, True, None):
                self.bad_name(wrong, lambda: leaving(example(), wrong, minute))


class StartMap(WaysCase):
    def test_example(self):
        day = example()
        self.assertEqual(start_map(day, "ann", "first"), Rising.since(20))
        self.assertEqual(start_map(day, "bob", "both"), Rising.steady(30) | Rising.since(70))
        ann = (Rising.since(20) + 30 >> by_slots(60, [20, 5])) | Rising.since(80)
        self.assertEqual(start_map(day, "ann", "both"), ann)
        self.assertEqual(start_map(day, "ann", "last"), ann + 15)

    def test_against_earliest(self):
        many = 0
        for day in others_days(393, 90):
            for person, name in day.legs:
                way = start_map(day, person, name)
                self.assertIs(way.__class__, Rising)
                for minute in MINUTES:
                    self.assertEqual(way(minute), earliest(leaving(day, person, minute))[name], (person, name, minute))
                many += 1
        self.assertTrue(many > 150, many)

    def test_each_minute(self):
        for day in others_days(394, 2):
            for person, name in day.legs:
                way = start_map(day, person, name)
                for minute in range(2881):
                    self.assertEqual(way(minute), earliest(leaving(day, person, minute))[name])

    def test_behind_2880(self):
        """The same rule goes on: the walk takes any minute."""
        many = 0
        for day, (roads, meetings, people) in some_days(395, 60):
            for place, (person, home, _, row) in enumerate(people):
                for minute in (2881, 3000, 10 ** 6):
                    told = people[:place] + [(person, home, minute, row)] + people[place + 1:]
                    starts = walk_starts(roads, meetings, told)
                    for name in row:
                        self.assertEqual(start_map(day, person, name)(minute), starts[name])
                        many += 1
        self.assertTrue(many > 150, many)

    def test_a_way_that_changes_behind_2880(self):
        ways = Ways("a", "b")
        ways["a", "b"] = Rising([(0, 5, True), (3000, 3900, False), (3901, 3901, True)])
        day = Day(ways, [Meeting("one", "b", 0, 90, 7)], [Person("ann", "a", 0, "one")])
        way = start_map(day, "ann", "one")
        self.assertEqual([way(minute) for minute in (2880, 2999, 3000, 3900, 3901)], [2885, 3004, 3900, 3900, 3901])
        self.assertEqual(end_map(day, "ann"), way + 7)

    def test_by_meetings_of_others(self):
        """Ann drives Bob, and Bob drives Ann again; Cy comes on his own."""
        ways = Ways("a", "b")
        ways["a", "b"] = ways["b", "a"] = Rising.steady(10)
        names = ["one", "two", "three", "four"]
        meetings = [Meeting(name, place, 0, 900, 5) for name, place in zip(names, "abab")]
        people = [
            Person("ann", "a", 0, "one", "four"), Person("bob", "a", 3, "one", "two", "three"),
            Person("cy", "b", 40, "three", "four"),
        ]
        day = Day(ways, meetings, people)
        self.assertEqual(start_map(day, "ann", "one"), Rising.since(3))
        four = (Rising.since(3) + 30 | Rising.since(50)) + 15
        self.assertEqual(start_map(day, "ann", "four"), four)
        self.assertEqual([start_map(day, "ann", "four")(minute) for minute in (0, 20, 21, 40)], [65, 65, 66, 85])
        self.assertEqual(start_map(day, "cy", "three"), Rising.steady(10) | Rising.since(33))

    def test_how_the_person_leaves_does_not_matter(self):
        for day in others_days(396, 30):
            for person, name in day.legs:
                self.assertEqual(start_map(leaving(day, person, 2880), person, name), start_map(day, person, name))

    def test_errors(self):
        day = example()
        for wrong in STRANGE:
            self.bad_name(wrong, lambda: start_map(day, wrong, "first"))
            self.bad_name(wrong, lambda: start_map(day, wrong, "none"))
        for wrong in NO_NAMES + ["none", "ann"]:
            self.bad_name(wrong, lambda: start_map(day, "ann", wrong))
        self.bad_name("first", lambda: start_map(day, "bob", "first"))


class EndMap(WaysCase):
    def test_example(self):
        day = example()
        self.assertEqual(end_map(day, "ann"), start_map(day, "ann", "last") + 10)
        self.assertEqual(end_map(day, "bob"), start_map(day, "bob", "both") + 15)

    def test_without_meetings(self):
        day = Day(Ways("a"), [Meeting("one", "a", 5, 9, 7)], [Person("ann", "a", 3), Person("bob", "a", 3, "one")])
        self.assertEqual(end_map(day, "ann"), Rising.stay())
        self.assertEqual(end_map(day, "bob"), Rising.since(5) + 7)

    def test_many_days(self):
        for day in others_days(397, 60):
            for person in day.people:
                way = end_map(day, person.name)
                for minute in (0, 8, 23, 44, 2880):
                    end = minute
                    if person.meetings:
                        last = day[person.meetings[-1]]
                        end = earliest(leaving(day, person.name, minute))[last.name] + last.length
                    self.assertEqual(way(minute), end)

    def test_errors(self):
        for wrong in STRANGE:
            self.bad_name(wrong, lambda: end_map(example(), wrong))


class Compared(WaysCase):
    def test_against_the_values(self):
        """A day, and the same one with longer or shorter parts."""
        rng = random.Random(401)
        seen = {}
        for day in others_days(402, 150, wide=15):
            other = day
            for _ in range(rng.randint(0, 2)):
                name = rng.choice(day.meetings).name
                minute = rng.randint(0, 40)
                kinds = [fixed(other, name, minute), changed(other, Changes({}, {name: 3}, 1), [name])]
                if day.legs:
                    kinds.append(longer(other, 2, rng.choice(day.legs)))
                other = rng.choice(kinds)
            for person in day.people:
                one, two = end_map(day, person.name), end_map(other, person.name)
                minutes = range(300)
                before = all(one(minute) <= two(minute) for minute in minutes)
                after = all(two(minute) <= one(minute) for minute in minutes)
                self.assertIs(never_later(day, other, person.name), before)
                self.assertIs(never_later(other, day, person.name), after)
                self.assertIs(same_ends(day, other, person.name), before and after)
                self.assertIs(same_ends(other, day, person.name), before and after)
                seen[before, after] = seen.get((before, after), 0) + 1
        self.assertTrue(all(seen[key] > 5 for key in [(True, True), (True, False)]) and len(seen) > 2, seen)

    def test_neither(self):
        one = Day(Ways("a"), [Meeting("one", "a", 50, 90, 0)], [Person("ann", "a", 0, "one")])
        two = Day(Ways("a"), [Meeting("two", "a", 0, 90, 20)], [Person("ann", "a", 0, "two")])
        for first, second in ((one, two), (two, one)):
            self.assertIs(never_later(first, second, "ann"), False)
            self.assertIs(same_ends(first, second, "ann"), False)
        self.assertIs(never_later(one, one, "ann"), True)

    def test_days_with_one_minute_between_them(self):
        ways = Ways("a", "b")
        ways["a", "b"] = Rising([(0, 10, True), (20, 31, False), (31, 32, True)])
        meetings = [Meeting("one", "b", 0, 90, 5)]
        people = [Person("ann", "a", 0, "one")]
        one = Day(ways, meetings, people)
        ways["a", "b"] = Rising([(0, 10, True), (20, 31, False), (32, 33, True)])
        two = Day(ways, meetings, people)
        self.assertEqual([end_map(day, "ann")(31) for day in (one, two)], [37, 36])
        self.assertIs(never_later(two, one, "ann"), True)
        self.assertIs(never_later(one, two, "ann"), False)
        self.assertIs(same_ends(one, two, "ann"), False)

    def test_other_people_and_meetings(self):
        one = Day(Ways("a"), [Meeting("one", "a", 0, 90, 5)], [Person("ann", "a", 0, "one"), Person("bob", "a", 7)])
        meetings = [Meeting("x", "b", 0, 9, 2), Meeting("y", "b", 0, 9, 3)]
        two = Day(Ways("b"), meetings, [Person("ann", "b", 8, "x", "y")])
        self.assertIs(same_ends(one, two, "ann"), True)
        self.assertIs(never_later(one, two, "ann"), True)
        self.bad_name("bob", lambda: never_later(one, two, "bob"))
        self.bad_name("bob", lambda: same_ends(two, one, "bob"))

    def test_errors(self):
        for wrong in STRANGE:
            self.bad_name(wrong, lambda: never_later(example(), example(), wrong))
            self.bad_name(wrong, lambda: same_ends(example(), example(), wrong))


class LatestLeaving(WaysCase):
    def test_example(self):
        self.assertEqual(latest_leaving(example(), "ann"), 25)
        self.assertEqual(latest_leaving(example(), "bob"), 60)

    def test_against_all_minutes(self):
        rng = random.Random(404)
        seen = {True: 0, False: 0, "zero": 0, "later": 0}
        for day in others_days(403, 250):
            for person in day.people:
                if rng.random() < 0.2 and person.meetings:
                    first = person.meetings[0]
                    day = fixed(day, first, day.leg_map(person.name, first)(0))
                found = latest_leaving(day, person.name)
                if not person.meetings:
                    self.assertIsNone(found)
                    continue
                fits = [minute for minute in range(120) if can_be_kept(leaving(day, person.name, minute))]
                self.assertEqual(found, fits[-1] if fits else None)
                seen[found is None] += 1
                seen["zero"] += found == 0
                seen["later"] += found is not None and not can_be_kept(day)
        self.assertTrue(seen[True] > 100 and seen[False] > 80 and seen["zero"] > 2 and seen["later"] > 5, seen)

    def test_zero(self):
        ways = Ways("a", "b")
        ways["a", "b"] = Rising.steady(7)
        for latest, right in ((7, 0), (8, 1), (6, None)):
            day = Day(ways, [Meeting("one", "b", 0, latest, 5)], [Person("ann", "a", 30, "one")])
            self.assertEqual(latest_leaving(day, "ann"), right)

    def test_limit(self):
        day = Day(Ways("a"), [Meeting("one", "a", 0, 2880, 5)], [Person("ann", "a", 30, "one")])
        self.assertEqual(latest_leaving(day, "ann"), 2880)

    def test_none(self):
        self.assertIsNone(latest_leaving(late_day(), "ann"))
        self.assertEqual(latest_leaving(late_day(), "bob"), 5)
        day = Day(Ways("a"), [Meeting("one", "a", 0, 2880, 5)], [Person("ann", "a", 30)])
        self.assertIsNone(latest_leaving(day, "ann"))

    def test_errors(self):
        for wrong in STRANGE:
            self.bad_name(wrong, lambda: latest_leaving(example(), wrong))
            self.bad_name(wrong, lambda: latest_leaving(late_day(), wrong))
        self.bad_name("ann", lambda: latest_leaving(Day(Ways("a"), [], []), "ann"))


class Unchanged(WaysCase):
    def test_the_day_stays(self):
        day = example()
        for _ in range(2):
            leaving(day, "ann", 100)
            start_map(day, "ann", "last")
            end_map(day, "bob")
            latest_leaving(day, "ann")
            never_later(day, example(), "ann")
            same_ends(day, example(), "ann")
            self.assertEqual(day, example())
            self.assertEqual(day.people[0].leaves, 5)

    def test_a_long_meeting(self):
        day = changed(example(), Changes({}, {"first": 600}, 1), ["first"])
        self.assertEqual(start_map(day, "ann", "both")(0), 655)
        self.assertEqual(leaving(day, "ann", 30)["first"].length, 630)
        self.assertIsNone(latest_leaving(day, "ann"))
        self.assertIs(never_later(example(), day, "ann"), True)


if __name__ == "__main__":
    unittest.main()

"""Point 38: meetings put in."""

import itertools
import random
import unittest

from days import example, made_ways, some_days
from laterways.changes import Changes, changed
from laterways.day import Day, Meeting, Person
from laterways.earliest import can_be_kept, earliest
from laterways.errors import BadRing, BadWay, TooMany
from laterways.moves import fixed, moves
from laterways.putting import put_in, with_meeting
from laterways.rising import Rising
from laterways.slack import longer
from laterways.slots import by_slots
from laterways.ways import Ways
from test_day import NO_INTEGERS
from test_ways import NO_NAMES, WaysCase


def example_ways():
    """The ways of the example, and one back from b to a."""
    ways = Ways("a", "b", "c")
    ways["a", "b"] = by_slots(60, [20, 5])
    ways["c", "b"] = Rising.steady(30)
    ways["b", "a"] = Rising.steady(7)
    return ways


NEW = Meeting("new", "b", 0, 300, 12)


class PuttingCase(WaysCase):
    def check_put(self, made, day, ways, meeting, gaps):
        """Every part of the new day; each leg has its old map or a new one."""
        self.assertIs(made.__class__, Day)
        self.assertEqual(made.meetings, day.meetings + (meeting,))
        self.assertEqual([person.name for person in made.people], [person.name for person in day.people])
        legs = []
        for old, new in zip(day.people, made.people):
            row = list(old.meetings)
            fresh = []
            if old.name in gaps:
                row.insert(gaps[old.name], meeting.name)
                fresh = row[gaps[old.name]:gaps[old.name] + 2]
            self.assertEqual(new, Person(old.name, old.home, old.leaves, *row))
            here = old.home
            for name in row:
                there = made[name].place
                way = ways[here, there] if name in fresh else day.leg_map(old.name, name)
                self.assertEqual(made.leg_map(old.name, name), way, (old.name, name))
                here = there
                legs.append((old.name, name))
        self.assertEqual(made.legs, tuple(legs))

    def bad_ring(self, call, people):
        """A ring in the rows of these people, which are (name, row)."""
        with self.assertRaises(BadRing) as held:
            call()
        names = held.exception.names
        steps = {pair for _, row in people for pair in zip(row, row[1:])}
        self.assertTrue(len(names) > 1 and len(set(names)) == len(names), names)
        for pair in zip(names, names[1:] + names[:1]):
            self.assertIn(pair, steps)


def all_gaps(day, people):
    sizes = [len(person.meetings) + 1 for name in people for person in day.people if person.name == name]
    return list(itertools.product(*[range(size) for size in sizes]))


def some_puttings(seed, many, most=5):
    """Days, ways, a new meeting and the people who attend it; many legs were made longer before."""
    rng = random.Random(seed)
    found = []
    for day, parts in some_days(seed + 1, many, most):
        ways = made_ways(parts[0])
        if rng.random() < 0.5:
            for leg in day.legs:
                if rng.random() < 0.5:
                    day = longer(day, rng.randint(1, 9), leg)
        if rng.random() < 0.3:
            ways = ways + rng.randint(1, 3)
        opens = rng.randint(0, 60)
        meeting = Meeting("new", rng.choice("abc"), opens, opens + rng.randint(0, 60), rng.randint(0, 9))
        people = [person.name for person in day.people]
        people = rng.sample(people, rng.randint(0, len(people)))
        while len(all_gaps(day, people)) > 80:
            people.pop()
        found.append((day, ways, meeting, people))
    return found


class WithMeeting(PuttingCase):
    def test_example(self):
        day, ways = example(), example_ways()
        for gaps in ({}, {"ann": 0}, {"ann": 1}, {"ann": 2}, {"ann": 3}, {"bob": 0}, {"bob": 1}):
            self.check_put(with_meeting(day, ways, NEW, gaps), day, ways, NEW, gaps)
        made = with_meeting(day, ways, NEW, {"ann": 1})
        self.assertEqual(made.people[0].meetings, ("first", "new", "both", "last"))
        self.assertEqual(earliest(made), {"last": 95, "both": 80, "first": 20, "new": 65})

    def test_behind_the_other_meetings(self):
        made = with_meeting(example(), example_ways(), NEW, {"ann": 0})
        self.assertEqual([meeting.name for meeting in made.meetings], ["last", "both", "first", "new"])
        self.assertEqual(made.order(), ["new", "first", "both", "last"])

    def test_a_day_that_is_made_anew(self):
        """From the same ways and without delays it is the day that Day makes of the parts."""
        many = 0
        for day, parts in some_days(3811, 120, 4):
            ways = made_ways(parts[0])
            people = [person.name for person in day.people][:2]
            for gaps in all_gaps(day, people):
                rows = []
                told = dict(zip(people, gaps))
                for person in day.people:
                    row = list(person.meetings)
                    if person.name in told:
                        row.insert(told[person.name], "new")
                    rows.append(Person(person.name, person.home, person.leaves, *row))
                meeting = Meeting("new", "c", 5, 70, 4)
                try:
                    right = Day(ways, day.meetings + (meeting,), rows)
                except BadRing:
                    with self.assertRaises(BadRing):
                        with_meeting(day, ways, meeting, told)
                    continue
                self.assertEqual(with_meeting(day, ways, meeting, told), right)
                many += 1
        self.assertTrue(many > 200, many)

    def test_other_legs_keep_their_maps(self):
        """Delays of old legs stay, but for the one behind the new meeting."""
        day, ways = longer(example(), 3), example_ways()
        for gaps in ({}, {"ann": 0}, {"ann": 1}, {"ann": 2}, {"ann": 3}, {"bob": 0}, {"bob": 1}):
            self.check_put(with_meeting(day, ways, NEW, gaps), day, ways, NEW, gaps)
        made = with_meeting(day, ways, NEW, {"ann": 1})
        self.assertEqual(made.leg_map("ann", "first"), Rising.steady(3))
        self.assertEqual(made.leg_map("ann", "new"), by_slots(60, [20, 5]))
        self.assertEqual(made.leg_map("ann", "both"), Rising.stay())
        self.assertEqual(made.leg_map("ann", "last"), Rising.steady(3))
        self.assertEqual(made.leg_map("bob", "both"), Rising.steady(33))

    def test_other_ways_than_those_of_the_day(self):
        day, ways = example(), example_ways() + 4
        for gaps in ({}, {"ann": 0}, {"ann": 2}, {"bob": 1}):
            self.check_put(with_meeting(day, ways, NEW, gaps), day, ways, NEW, gaps)

    def test_many_days(self):
        made_days = rings = 0
        for day, ways, meeting, people in some_puttings(381, 300):
            for gaps in all_gaps(day, people):
                told = dict(zip(people, gaps))
                try:
                    made = with_meeting(day, ways, meeting, told)
                except BadRing:
                    rings += 1
                    continue
                made_days += 1
                self.check_put(made, day, ways, meeting, told)
        self.assertTrue(made_days > 500 and rings > 50, (made_days, rings))

    def test_legs_within_one_place(self):
        day = Day(Ways("a"), [Meeting("one", "a", 0, 9, 1)], [Person("ann", "a", 0, "one")])
        made = with_meeting(day, Ways("a"), Meeting("two", "a", 0, 9, 1), {"ann": 0})
        self.assertEqual(made.leg_map("ann", "two"), Rising.stay())
        self.assertEqual(made.leg_map("ann", "one"), Rising.stay())

    def test_missing_ways(self):
        """From b and c one comes nowhere but to b."""
        ways = Ways("a", "b", "c")
        ways["a", "b"] = Rising.steady(5)
        ways["c", "b"] = Rising.steady(30)
        day = example()
        at_b, at_c = Meeting("new", "b", 0, 300, 12), Meeting("new", "c", 0, 300, 12)
        self.bad_way("b", "a", lambda: with_meeting(day, ways, at_b, {"ann": 0}))
        self.bad_way("a", "c", lambda: with_meeting(day, ways, at_c, {"ann": 0}))
        self.bad_way("a", "c", lambda: with_meeting(day, ways, at_c, {"bob": 0, "ann": 0}))
        self.bad_way("b", "c", lambda: with_meeting(day, ways, at_c, {"bob": 1, "ann": 0}))
        self.bad_way("a", "c", lambda: with_meeting(day, ways, at_c, {"ann": 0, "bob": 1}))
        self.bad_way("b", "c", lambda: with_meeting(day, ways, at_c, {"ann": 2, "bob": 0}))
        self.check_put(with_meeting(day, ways, at_c, {"bob": 0}), day, ways, at_c, {"bob": 0})

    def test_old_legs_are_not_read(self):
        """The ways of the day are gone; only the new legs are needed."""
        ways = Ways("a", "b", "c")
        ways["c", "a"] = Rising.steady(2)
        day = example()
        meeting = Meeting("new", "c", 0, 300, 12)
        self.bad_way("a", "b", lambda: with_meeting(day, ways, NEW, {"ann": 1}))
        made = with_meeting(day, ways, meeting, {})
        self.check_put(made, day, ways, meeting, {})
        self.check_put(with_meeting(day, ways, NEW, {"ann": 3}), day, ways, NEW, {"ann": 3})

    def test_rings(self):
        day, ways = example(), example_ways()
        people = [("ann", ["first", "both", "last", "new"]), ("bob", ["new", "both"])]
        self.bad_ring(lambda: with_meeting(day, ways, NEW, {"ann": 3, "bob": 0}), people)
        people = [("ann", ["new", "first", "both", "last"]), ("bob", ["both", "new"])]
        self.bad_ring(lambda: with_meeting(day, ways, NEW, {"bob": 1, "ann": 0}), people)

    def test_ways_come_before_rings(self):
        ways = Ways("a", "b", "c")
        ways["c", "b"] = Rising.steady(30)
        at_a = Meeting("new", "a", 0, 9, 1)
        self.bad_way("b", "a", lambda: with_meeting(example(), ways, at_a, {"ann": 3, "bob": 0}))

    def test_a_day_that_cannot_be_kept(self):
        day = fixed(example(), "first", 4)
        self.assertFalse(can_be_kept(day))
        self.check_put(with_meeting(day, example_ways(), NEW, {"ann": 2}), day, example_ways(), NEW, {"ann": 2})
        self.assertEqual(put_in(day, example_ways(), NEW, "ann"), [])

    def test_long_meetings(self):
        day = changed(example(), Changes({}, {"first": 600, "both": 600}, 2), ["first", "both"])
        made = with_meeting(day, example_ways(), NEW, {"ann": 1})
        self.check_put(made, day, example_ways(), NEW, {"ann": 1})
        self.assertEqual(earliest(made), {"last": 1282, "both": 667, "first": 20, "new": 655})
        long = day["first"]
        other = with_meeting(Day(Ways("a"), [], [Person("ann", "a", 0)]), Ways("a"), long, {"ann": 0})
        self.assertEqual(other["first"].length, 630)


class PutIn(PuttingCase):
    def test_example(self):
        day, ways = example(), example_ways()
        meeting = Meeting("new", "b", 0, 100, 5)
        self.assertEqual(put_in(day, ways, meeting, "ann"), [((1,), 65, 85), ((2,), 95, 100)])
        self.assertEqual(put_in(day, ways, meeting, "bob"), [((0,), 80, 85), ((1,), 95, 100)])
        self.assertEqual(put_in(day, ways, meeting, "bob", "ann"), [((0, 1), 80, 85), ((1, 2), 95, 100)])
        self.assertEqual(put_in(day, ways, meeting), [((), 0, 100)])

    def test_against_with_meeting_and_moves(self):
        seen = {"kept": 0, "not kept": 0, "ring": 0, "way": 0, "nobody": 0}
        cases = some_puttings(382, 200)
        rng = random.Random(383)
        for day, ways, meeting, people in cases:
            if rng.random() < 0.4:
                less = Ways("a", "b", "c")
                for pair in itertools.permutations("abc", 2):
                    if rng.random() < 0.6:
                        less[pair] = ways.told(*pair)
                ways = less
            right = []
            for gaps in all_gaps(day, people):
                try:
                    made = with_meeting(day, ways, meeting, dict(zip(people, gaps)))
                except BadRing:
                    seen["ring"] += 1
                    continue
                except BadWay:
                    seen["way"] += 1
                    continue
                found = moves(made, "new")
                seen["not kept" if found is None else "kept"] += 1
                if found is not None:
                    right.append((gaps,) + found)
            seen["nobody"] += people == []
            found = put_in(day, ways, meeting, *people)
            self.assertEqual(found, right)
            self.assertIs(found.__class__, list)
            self.assertEqual(found, sorted(found))
            for row in found:
                self.assertEqual((row.__class__, row[0].__class__, len(row[0])), (tuple, tuple, len(people)))
        self.assertTrue(all(many > 25 for many in seen.values()), seen)

    def test_the_order_of_the_people(self):
        day, ways = example(), example_ways()
        one = put_in(day, ways, NEW, "ann", "bob")
        two = put_in(day, ways, NEW, "bob", "ann")
        self.assertEqual(sorted((gaps[::-1], first, last) for gaps, first, last in one), two)
        self.assertNotEqual(one, two)

    def test_without_people(self):
        day = Day(Ways("a"), [], [])
        self.assertEqual(put_in(day, Ways("a"), Meeting("new", "a", 7, 9, 3)), [((), 7, 9)])
        self.assertEqual(put_in(fixed(example(), "first", 4), example_ways(), NEW), [])

    def people_with(self, *sizes):
        """A day whose people have so many meetings each, in the order of the names."""
        meetings = [Meeting(name, "a", 0, 900, 10) for name in "klmnopqrs"]
        names = [meeting.name for meeting in meetings]
        people = [Person("abcd"[k], "a", 0, *names[:size]) for k, size in enumerate(sizes)]
        return Day(Ways("a"), meetings, people)

    def too_many(self, call):
        with self.assertRaises(TooMany) as held:
            call()
        self.assertEqual(held.exception.limit, 200)

    def test_two_hundred_rows_and_more(self):
        new = Meeting("new", "a", 0, 900, 10)
        ways = Ways("a")
        day = self.people_with(7, 4, 4, 0)
        self.assertEqual(len(all_gaps(day, "abcd")), 200)
        found = put_in(day, ways, new, *"abcd")
        self.assertEqual([row[0] for row in found], [(k, min(k, 4), min(k, 4), 0) for k in range(8)])
        self.too_many(lambda: put_in(self.people_with(7, 4, 5), ways, new, *"abc"))
        self.too_many(lambda: put_in(self.people_with(9, 9, 2, 1), ways, new, *"abcd"))
        self.too_many(lambda: put_in(self.people_with(9, 9, 9, 9), ways, new, *"abcd"))
        self.assertEqual(len(put_in(self.people_with(2, 2, 2, 2), ways, new, *"abcd")), 3)
        self.too_many(lambda: put_in(self.people_with(2, 2, 2, 7), ways, new, *"abcd"))
        self.too_many(lambda: put_in(self.people_with(2, 0, 7, 8), ways, new, *"abcd"))
        self.assertEqual(len(put_in(self.people_with(9, 9, 9, 9), ways, new, *"ab")), 10)

    def test_two_hundred_and_one_rows_of_a_day_that_cannot_be_kept(self):
        new = Meeting("new", "a", 0, 900, 10)
        day = fixed(self.people_with(7, 4, 4, 2), "l", 0)
        self.assertFalse(can_be_kept(day))
        self.too_many(lambda: put_in(day, Ways("a"), new, *"abcd"))
        self.assertEqual(put_in(day, Ways("a"), new, *"abc"), [])

    def test_with_meeting_has_no_limit(self):
        day = self.people_with(9, 9, 9, 9)
        made = with_meeting(day, Ways("a"), Meeting("new", "a", 0, 900, 10), {name: 9 for name in "abcd"})
        self.assertEqual(earliest(made)["new"], 90)


class Refused(PuttingCase):
    def refused(self, what, value, call):
        if what == "name":
            self.bad_name(value, call)
        else:
            self.bad_number(what, value, call)

    def full_day(self, many=10):
        """Ten meetings, and homes and places that other ways do not have."""
        ways = Ways("a", "b", "c", "d", "e")
        names = ["m" + letter for letter in "abcdefghij"[:many]]
        meetings = [Meeting(name, place, 0, 900, 1) for name, place in zip(names, "abcabcabca")]
        people = [Person("ann", "d", 0), Person("bob", "e", 0), Person("cy", "a", 0, "ma")]
        return Day(ways, meetings, people)

    def test_people_first(self):
        day = self.full_day()
        for wrong in NO_NAMES + ["zed", "ma", "new"]:
            for meeting in (Meeting("new", "zz", 0, 9, 1), Meeting("ma", "zz", 0, 9, 1)):
                self.bad_name(wrong, lambda: put_in(day, Ways("x"), meeting, "ann", wrong, "ann", "yy"))
                self.bad_name(wrong, lambda: with_meeting(day, Ways("x"), meeting, {"ann": -1, wrong: -1, "yy": 0}))
        self.bad_name("ann", lambda: put_in(day, Ways("x"), Meeting("ma", "zz", 0, 9, 1), "ann", "ann", "yy"))
        self.bad_name("bob", lambda: put_in(day, Ways("x"), Meeting("ma", "zz", 0, 9, 1), "ann", "bob", "bob", "ann"))
        self.bad_name("ann", lambda: put_in(example(), example_ways(), NEW, "ann", "ann"))

    def test_then_the_name_of_the_meeting(self):
        day = self.full_day()
        for name in ("ma", "mj"):
            for place in ("a", "zz"):
                meeting = Meeting(name, place, 0, 9, 1)
                self.bad_name(name, lambda: put_in(day, Ways("x"), meeting, "ann", "bob"))
                self.bad_name(name, lambda: put_in(day, Ways("x"), meeting))
                self.bad_name(name, lambda: with_meeting(day, Ways("x"), meeting, {"ann": -1}))
                self.bad_name(name, lambda: with_meeting(day, Ways("x"), meeting, {}))
        made = with_meeting(example(), example_ways(), Meeting("ann", "b", 0, 9, 1), {"ann": 0})
        self.assertIn(("ann", "ann"), made.legs)

    def test_then_the_places(self):
        new = Meeting("new", "x", 0, 9, 1)
        for many in (2, 10):
            day = self.full_day(many)
            for places, wrong in (
                ("abcde", "x"), ("y", "x"), ("x", "a"), ("xa", "b"), ("xade", "b"), ("xab", "d" if many == 2 else "c"),
                ("xabc", "d"), ("xabce", "d"), ("xabcd", "e"),
            ):
                self.bad_name(wrong, lambda: put_in(day, Ways(*places), new, "cy"))
                self.bad_name(wrong, lambda: put_in(day, Ways(*places), new))
                self.bad_name(wrong, lambda: with_meeting(day, Ways(*places), new, {"cy": -1}))
                self.bad_name(wrong, lambda: with_meeting(day, Ways(*places), new, {}))

    def test_then_an_eleventh_meeting(self):
        new = Meeting("new", "a", 0, 9, 1)
        day, ways = self.full_day(), Ways(*"abcde")
        self.bad_number("meetings", 11, lambda: put_in(day, ways, new))
        self.bad_number("meetings", 11, lambda: put_in(day, ways, new, "ann"))
        self.bad_number("meetings", 11, lambda: with_meeting(day, ways, new, {"cy": -1}))
        self.bad_number("meetings", 11, lambda: with_meeting(day, ways, new, {"cy": 0, "ann": True}))
        self.assertEqual(len(with_meeting(self.full_day(9), ways, new, {"cy": 0})), 10)

    def test_too_many_comes_last(self):
        meetings = [Meeting(name, "a", 0, 900, 10) for name in "klmnopqrst"]
        names = [meeting.name for meeting in meetings]
        day = Day(Ways("a"), meetings, [Person(name, "a", 0, *names) for name in "abcd"])
        self.bad_number("meetings", 11, lambda: put_in(day, Ways("a"), Meeting("new", "a", 0, 9, 1), *"abcd"))
        self.bad_name("x", lambda: put_in(day, Ways("a"), Meeting("new", "x", 0, 9, 1), *"abcd"))
        self.bad_name("k", lambda: put_in(day, Ways("a"), Meeting("k", "x", 0, 9, 1), *"abcd"))
        self.bad_name("a", lambda: put_in(day, Ways("a"), Meeting("k", "x", 0, 9, 1), *"abcda"))

    def test_then_the_gaps(self):
        day, ways = example(), example_ways()
        for wrong in [-1, 4] + NO_INTEGERS:
            self.bad_number("gap", wrong, lambda: with_meeting(day, ways, NEW, {"ann": wrong}))
            self.bad_number("gap", wrong, lambda: with_meeting(day, ways, NEW, {"bob": 0, "ann": wrong}))
        self.bad_number("gap", 2, lambda: with_meeting(day, ways, NEW, {"bob": 2}))
        self.bad_number("gap", 5, lambda: with_meeting(day, ways, NEW, {"ann": 5, "bob": 2}))
        self.bad_number("gap", 2, lambda: with_meeting(day, ways, NEW, {"bob": 2, "ann": 5}))
        nobody = Day(Ways("a"), [], [Person("ann", "a", 0)])
        self.bad_number("gap", 1, lambda: with_meeting(nobody, Ways("a"), Meeting("new", "a", 0, 9, 1), {"ann": 1}))

    def test_gaps_come_before_ways_and_rings(self):
        at_c = Meeting("new", "c", 0, 300, 12)
        self.bad_number("gap", 2, lambda: with_meeting(example(), example_ways(), at_c, {"ann": 0, "bob": 2}))
        self.bad_number("gap", 4, lambda: with_meeting(example(), example_ways(), NEW, {"bob": 0, "ann": 4}))


class Unchanged(PuttingCase):
    def test_what_was_passed_stays(self):
        for day, ways, meeting, people in some_puttings(384, 30):
            names = list(people)
            before = (vars(meeting).copy(), ways.copy(), [vars(person).copy() for person in day.people], day.legs)
            maps = [day.leg_map(*leg) for leg in day.legs]
            found = put_in(day, ways, meeting, *people)
            gaps = {person: 0 for person in people}
            try:
                with_meeting(day, ways, meeting, gaps)
            except BadRing:
                pass
            self.assertEqual(gaps, {person: 0 for person in names})
            self.assertEqual(list(gaps), names)
            after = (vars(meeting), ways, [vars(person) for person in day.people], day.legs)
            self.assertEqual(after, before)
            self.assertEqual([day.leg_map(*leg) for leg in day.legs], maps)
            self.assertNotIn("new", day)
            self.assertEqual(put_in(day, ways, meeting, *people), found)

    def test_returned_lists_are_new(self):
        day, ways = example(), example_ways()
        found = put_in(day, ways, NEW, "ann")
        found.clear()
        self.assertEqual(len(put_in(day, ways, NEW, "ann")), 3)

    def test_a_refused_call_changes_nothing(self):
        day, ways = example(), example_ways()
        for gaps in ({"ann": 9}, {"zed": 0}, {"ann": 3, "bob": 0}):
            told = dict(gaps)
            with self.assertRaises(ValueError):
                with_meeting(day, ways, NEW, gaps)
            self.assertEqual((gaps, day, ways), (told, example(), example_ways()))


if __name__ == "__main__":
    unittest.main()

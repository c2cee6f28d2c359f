"""Points 21 and 22: chains."""

import random
import unittest

from days import example, some_days
from laterways.chains import chain, check_chain
from laterways.day import Day, Meeting, Person
from laterways.earliest import earliest, fault
from laterways.errors import BadName, BadPaper, CalendarError
from laterways.rising import Rising
from laterways.ways import Ways
from models import all_chains, leaving_home, leg_arrival, read_chain, told_legs, walk_starts
from test_ways import NO_NAMES

STRANGE_PERSONS = ["ann", "opens", "leaves", "u", "v", "bob"]


def told_chain(parts, starts, name):
    """The chain that point 22 tells, from the last row back."""
    opens = {meeting[0]: meeting[2] for meeting in parts[1]}
    if starts[name] == opens[name]:
        return [("opens", name)]
    legs = told_legs(parts)
    for person, _, _, names in parts[2]:
        if name in names:
            before = legs[person, name][0]
            begin = starts[before] if before else leaving_home(parts, person)
            if leg_arrival(parts, (person, name), begin) == starts[name]:
                rows = told_chain(parts, starts, before) if before else [("leaves", person)]
                return rows + [(person, name)]
    raise AssertionError("nobody comes at the earliest start")


def some_row(rng, parts):
    """A row that may stand somewhere, or nowhere."""
    persons = [row[0] for row in parts[2]] + ["zed"]
    names = [row[0] for row in parts[1]] + ["none"]
    kinds = [
        (rng.choice(["opens", "leaves"]), rng.choice(names + persons)), (rng.choice(persons), rng.choice(names)),
        (rng.choice(persons), rng.choice(names)), (rng.choice(names),), (), (rng.choice(persons), rng.choice(names), True),
        ("opens", rng.choice(names), rng.choice(names)), (rng.choice(names), rng.choice(persons)), (None, True),
    ]
    return rng.choice(kinds)


class ChainsCase(unittest.TestCase):
    def bad_paper(self, row, reason, call):
        with self.assertRaises(BadPaper) as held:
            call()
        self.assertEqual((held.exception.row, held.exception.reason), (row, reason))
        self.assertIs(held.exception.row.__class__, int)

    def refused(self, row, reason, rows, day=None):
        told = example() if day is None else day
        self.bad_paper(row, reason, lambda: check_chain(told, rows))
        self.bad_paper(row, reason, lambda: check_chain(told, tuple(rows)))

    def verdict(self, call):
        """What was returned, or ("bad", row, reason)."""
        try:
            return call()
        except BadPaper as error:
            return ("bad", error.row, error.reason)


def day_of_strange_people():
    """People whose names are the words of the first rows, or names of meetings."""
    ways = Ways("a")
    meetings = [Meeting("one", "a", 5, 100, 10), Meeting("two", "a", 7, 100, 20), Meeting("opens", "a", 1, 100, 30)]
    people = [
        Person("opens", "a", 9, "one", "two"), Person("leaves", "a", 11, "two", "opens"), Person("one", "a", 40, "one"),
    ]
    return Day(ways, meetings, people)


class Point21(ChainsCase):
    def test_example(self):
        day = example()
        self.assertEqual(check_chain(day, [("opens", "first")]), ("first", 20))
        self.assertEqual(check_chain(day, [("opens", "first"), ("ann", "both")]), ("both", 65))
        self.assertEqual(check_chain(day, [("leaves", "ann"), ("ann", "first")]), ("first", 5))
        self.assertEqual(check_chain(day, [("leaves", "bob"), ("bob", "both"), ("ann", "last")]), ("last", 95))
        answer = check_chain(day, (("opens", "both"), ("ann", "last")))
        self.assertEqual(answer, ("last", 85))
        self.assertIs(answer.__class__, tuple)

    def test_start(self):
        for rows in (
            [], [()], [("opens",)], [("leaves",)], [("opens", "first", "first")], [("leaves", "ann", "first")],
            [("opens", "none")], [("leaves", "zed")], [("opens", "ann")], [("leaves", "first")], [("ann", "first")],
            [("ann", "both")], [("waits", "first")], [("Opens", "first")], [("", "")], [("first", "opens")],
            [("opens", None)], [("leaves", None)], [(None, "first")], [(True, False)], [("opens", "")],
        ):
            self.refused(0, "start", rows)
            if rows:
                self.refused(0, "start", rows + [("ann", "first")])
                self.refused(0, "start", rows + [("zed",)])

    def test_leg(self):
        start = [("opens", "first"), ("ann", "both")]
        for row in (
            (), ("ann",), ("ann", "last", "last"), ("ann", "last", False, False), ("bob", "last"), ("zed", "last"),
            ("ann", "none"), ("last", "ann"), ("opens", "last"), ("leaves", "ann"), ("leaves", "bob"), (None, None),
            ("ann", True), ("ann", ""), ("bob", "first"),
        ):
            self.refused(1, "leg", start[:1] + [row])
            self.refused(1, "leg", start[:1] + [row, ("ann", "last")])
            self.refused(2, "leg", start + [row])
            self.refused(2, "leg", start + [row, ("bob", "last")])

    def test_link(self):
        for row, rows in (
            (1, [("opens", "first"), ("ann", "first")]), (1, [("opens", "first"), ("ann", "last")]),
            (1, [("opens", "first"), ("bob", "both")]), (1, [("leaves", "ann"), ("ann", "both")]),
            (1, [("leaves", "ann"), ("bob", "both")]), (1, [("leaves", "bob"), ("ann", "first")]),
            (1, [("opens", "last"), ("ann", "last")]), (1, [("opens", "last"), ("ann", "first")]),
            (2, [("leaves", "ann"), ("ann", "first"), ("ann", "last")]),
            (2, [("leaves", "ann"), ("ann", "first"), ("bob", "both")]),
            (2, [("leaves", "bob"), ("bob", "both"), ("bob", "both")]),
            (3, [("opens", "first"), ("ann", "both"), ("ann", "last"), ("ann", "both")]),
        ):
            self.refused(row, "link", rows)
            self.refused(row, "link", rows + [("ann", "both")])
            self.refused(row, "link", rows + [()])

    def test_end(self):
        self.refused(0, "end", [("leaves", "ann")])
        self.refused(0, "end", [("leaves", "bob")])
        day = Day(Ways("a"), [], [Person("ann", "a", 0)])
        self.refused(0, "end", [("leaves", "ann")], day)
        self.refused(0, "start", [], day)

    def test_each_reason_at_the_first_bad_row(self):
        self.refused(0, "start", [("opens", "none"), (), ("ann", "last")])
        self.refused(1, "leg", [("opens", "first"), ("ann", "none"), ("ann", "first")])
        self.refused(1, "link", [("opens", "first"), ("ann", "last"), ("ann", "none"), ()])
        self.refused(1, "leg", [("leaves", "ann"), ("leaves", "ann")])

    def test_people_who_are_called_like_words_and_meetings(self):
        day = day_of_strange_people()
        self.assertEqual(check_chain(day, [("opens", "one")]), ("one", 5))
        self.assertEqual(check_chain(day, [("opens", "opens")]), ("opens", 1))
        self.assertEqual(check_chain(day, [("opens", "one"), ("opens", "two")]), ("two", 15))
        self.assertEqual(check_chain(day, [("opens", "two"), ("leaves", "opens")]), ("opens", 27))
        self.assertEqual(check_chain(day, [("leaves", "leaves"), ("leaves", "two")]), ("two", 11))
        self.assertEqual(check_chain(day, [("leaves", "opens"), ("opens", "one"), ("opens", "two")]), ("two", 19))
        self.assertEqual(check_chain(day, [("leaves", "one"), ("one", "one"), ("opens", "two")]), ("two", 50))
        self.refused(0, "start", [("leaves", "two")], day)
        self.refused(0, "end", [("leaves", "one")], day)
        self.refused(1, "link", [("leaves", "leaves"), ("opens", "one")], day)
        self.refused(1, "link", [("opens", "one"), ("leaves", "opens")], day)
        self.refused(1, "leg", [("opens", "one"), ("leaves", "one")], day)
        self.refused(1, "leg", [("opens", "one"), ("opens", "opens")], day)
        self.assertEqual(chain(day, "opens"), [("leaves", "one"), ("one", "one"), ("opens", "two"), ("leaves", "opens")])

    def test_all_chains_of_many_days(self):
        for day, parts in some_days(211, 60, persons=STRANGE_PERSONS):
            for rows in all_chains(parts):
                self.assertEqual(check_chain(day, rows), read_chain(parts, rows))

    def test_changed_chains_of_many_days(self):
        rng = random.Random(212)
        seen = {}
        for day, parts in some_days(213, 120, persons=STRANGE_PERSONS):
            chains, legs = all_chains(parts), list(told_legs(parts))
            for _ in range(25):
                rows = list(rng.choice(chains))
                for _ in range(rng.randint(1, 2)):
                    at = rng.randint(0, len(rows))
                    other = [some_row(rng, parts)] if rng.random() < 0.4 else rng.sample(legs, min(1, len(legs)))
                    rows[at:at + rng.randint(0, 1)] = rng.choice([other, other, []])
                answer = self.verdict(lambda: check_chain(day, rows))
                self.assertEqual(answer, read_chain(parts, rows), rows)
                reason = answer[2] if answer[0] == "bad" else "taken"
                seen[reason] = seen.get(reason, 0) + 1
        self.assertTrue(all(seen[reason] > 10 for reason in ("start", "leg", "link", "end", "taken")), seen)

    def test_nothing_is_modified(self):
        day, rows = example(), [("leaves", "bob"), ("bob", "both"), ("ann", "last")]
        check_chain(day, rows)
        self.assertEqual(rows, [("leaves", "bob"), ("bob", "both"), ("ann", "last")])
        self.refused(1, "leg", [("opens", "first"), ("zed", "both")], day)
        self.assertEqual(day, example())

    def test_the_error_is_one_of_the_program(self):
        self.assertEqual(BadPaper.__bases__, (CalendarError,))


class Point22(ChainsCase):
    def test_example(self):
        day = example()
        self.assertEqual(chain(day, "first"), [("opens", "first")])
        self.assertEqual(chain(day, "both"), [("leaves", "bob"), ("bob", "both")])
        self.assertEqual(chain(day, "last"), [("leaves", "bob"), ("bob", "both"), ("ann", "last")])

    def test_a_meeting_that_cuts(self):
        ways = Ways("a")
        meetings = [Meeting("two", "a", 0, 90, 10), Meeting("one", "a", 20, 90, 20)]
        day = Day(ways, meetings, [Person("ann", "a", 6, "one", "two")])
        self.assertEqual(chain(day, "two"), [("opens", "one"), ("ann", "two")])
        at_opens = Day(ways, meetings, [Person("ann", "a", 20, "one", "two")])
        self.assertEqual(chain(at_opens, "two"), [("opens", "one"), ("ann", "two")])
        home = Day(ways, meetings, [Person("ann", "a", 21, "one", "two")])
        self.assertEqual(chain(home, "two"), [("leaves", "ann"), ("ann", "one"), ("ann", "two")])

    def test_the_first_attendee_with_that_arrival(self):
        people = [Person("zed", "a", 5, "one"), Person("bob", "a", 8, "one"), Person("ann", "a", 8, "one")]
        day = Day(Ways("a"), [Meeting("one", "a", 0, 90, 10)], people)
        self.assertEqual(chain(day, "one"), [("leaves", "bob"), ("bob", "one")])
        day = Day(Ways("a"), [Meeting("one", "a", 8, 90, 10)], people)
        self.assertEqual(chain(day, "one"), [("opens", "one")])

    def test_many_days(self):
        long = 0
        for day, parts in some_days(221, 200, persons=STRANGE_PERSONS):
            starts = walk_starts(*parts)
            for name in starts:
                rows = chain(day, name)
                self.assertEqual(rows, told_chain(parts, starts, name))
                self.assertEqual({row.__class__ for row in rows}, {tuple})
                self.assertEqual(check_chain(day, rows), (name, starts[name]))
                long += len(rows) > 2
        self.assertTrue(long > 50, long)

    def test_no_chain_shows_more_than_the_earliest_start(self):
        less = 0
        for day, parts in some_days(222, 60):
            found = earliest(day)
            for rows in all_chains(parts):
                name, minute = check_chain(day, rows)
                self.assertLessEqual(minute, found[name])
                less += minute < found[name]
        self.assertTrue(less > 100, less)

    def test_no_kept_start_is_before_the_shown_minute(self):
        rng = random.Random(223)
        many = 0
        for day, parts in some_days(224, 60):
            shown = [check_chain(day, rows) for rows in all_chains(parts)]
            for _ in range(20):
                starts = {meeting.name: rng.randint(meeting.opens, meeting.latest) for meeting in day.meetings}
                if fault(day, starts) is None:
                    many += 1
                    self.assertTrue(all(starts[name] >= minute for name, minute in shown))
        self.assertTrue(many > 50, many)

    def test_a_late_meeting_has_a_chain(self):
        day = Day(Ways("a"), [Meeting("one", "a", 0, 5, 20)], [Person("ann", "a", 6, "one")])
        self.assertEqual(chain(day, "one"), [("leaves", "ann"), ("ann", "one")])

    def test_strange_names(self):
        day = example()
        for wrong in NO_NAMES + ["none", "ann", "opens", "leaves"]:
            with self.assertRaises(BadName) as held:
                chain(day, wrong)
            self.assertEqual(held.exception.name, wrong)

    def test_returned_lists_are_new(self):
        day = example()
        chain(day, "last").clear()
        chain(day, "first").append(("ann", "both"))
        self.assertEqual(chain(day, "last"), [("leaves", "bob"), ("bob", "both"), ("ann", "last")])
        self.assertEqual(chain(day, "first"), [("opens", "first")])
        self.assertEqual(day, example())

    def test_ways_told_anew_change_no_chain(self):
        ways = Ways("a", "b")
        ways["a", "b"] = Rising.steady(3)
        day = Day(ways, [Meeting("one", "b", 0, 90, 10)], [Person("ann", "a", 6, "one")])
        ways["a", "b"] = Rising.steady(30)
        self.assertEqual(check_chain(day, chain(day, "one")), ("one", 9))


if __name__ == "__main__":
    unittest.main()

"""Points 1 to 3 and 48 over the whole program."""

import random
import unittest

from days import example, made_day, made_ways, some_days
from laterways import errors
from laterways.calendar import Calendar
from laterways.chains import chain, check_chain
from laterways.changes import Changes, changed, lateness, safe, worst
from laterways.console import console
from laterways.day import Day, Meeting, Person
from laterways.earliest import can_be_kept, earliest, fault, late
from laterways.errands import best_end, latest_begin
from laterways.errors import BadRing, CalendarError
from laterways.moves import fixed, latest_starts, meet_at, moves, moves_with
from laterways.putting import put_in, with_meeting
from laterways.rides import Rides
from laterways.rising import Rising
from laterways.slack import longer, slack, slack_of_all, slacks, spare
from laterways.slots import by_slots, ride
from laterways.sure import latest_under, surely
from laterways.tables import check_changed_chain, check_table, worst_chain
from laterways.texts import read_day, read_rising, write_day
from laterways.told import Told, check_plan, plan_table
from laterways.ways import Ways
from laterways.whole import end_map, latest_leaving, leaving, never_later, same_ends, start_map
from laterways.words import is_name
from models import (
    Errands, changed_starts, in_time_from, leaving_home, leg_arrival, read_chain, table_holds, told_legs, walk_fault,
    walk_starts, worst_starts,
)
from test_changes import some_changes
from test_putting import example_ways
from test_ways import WaysCase


def answer_of(call):
    """What the call returns, or the error that it raises."""
    try:
        return call()
    except CalendarError as error:
        return (error.__class__, vars(error))


def parts_of(value):
    """The value with all its lists, dictionaries and objects of the package told as plain values."""
    if isinstance(value, dict):
        return ("dict", [(parts_of(key), parts_of(value[key])) for key in value])
    if isinstance(value, (list, tuple)):
        return (value.__class__.__name__, [parts_of(part) for part in value])
    if value.__class__.__module__.startswith("laterways"):
        return (value.__class__.__name__, parts_of(vars(value)))
    return (value.__class__.__name__, value)


def spoil(value):
    """Change whatever can be changed in a returned value."""
    if isinstance(value, dict):
        for key in list(value):
            spoil(value[key])
        value.clear()
    elif isinstance(value, (list, tuple)):
        for part in value:
            spoil(part)
        if isinstance(value, list):
            value.clear()


def some_tables(day, changes):
    table = worst(day, changes)
    less = {name: [entry - 1 for entry in table[name]] for name in table}
    return [table, {name: list(table[name]) for name in table}, less, {}]


def questions(day, ways, changes):
    """All questions to a day, as calls without arguments."""
    names = [meeting.name for meeting in day.meetings] + ["none"]
    people = [person.name for person in day.people] + ["zed"]
    legs = list(day.legs) + [("zed", "none")]
    starts = [earliest(day), {name: 30 for name in names[:-1]}, {}]
    found = [
        lambda: len(day), lambda: day.meetings, lambda: day.people, lambda: day.legs, lambda: day.order(),
        lambda: earliest(day), lambda: late(day), lambda: can_be_kept(day), lambda: latest_starts(day),
        lambda: slacks(day), lambda: slack_of_all(day), lambda: longer(day, 7), lambda: longer(day, 5, *day.legs[:1]),
        lambda: changed(day, changes, (list(changes.legs) + list(changes.lengths))[:changes.most]),
        lambda: worst(day, changes), lambda: safe(day, changes), lambda: lateness(day, changes),
        lambda: latest_under(day, changes), lambda: write_day(ways, day), lambda: day + Day(ways, [], []),
        lambda: Calendar(ways, day).day,
    ]
    for table in some_tables(day, changes):
        found.append(lambda table=table: check_table(day, changes, table))
    for told in starts:
        found += [lambda told=told: fault(day, told), lambda told=told: spare(day, told)]
    for name in names:
        found += [
            lambda name=name: day[name], lambda name=name: name in day, lambda name=name: day.attendees(name),
            lambda name=name: chain(day, name), lambda name=name: check_chain(day, chain(day, name)),
            lambda name=name: moves(day, name), lambda name=name: fixed(day, name, 17),
            lambda name=name: worst_chain(day, changes, name), lambda name=name: surely(day, changes, name),
            lambda name=name: check_changed_chain(day, changes, worst_chain(day, changes, name)),
            lambda name=name: answer_of(lambda: with_meeting(day, ways, Meeting(name, "a", 0, 50, 5), {})),
        ]
        for other in names:
            found += [
                lambda name=name, other=other: moves_with(day, name, 30, other),
                lambda name=name, other=other: meet_at(day, name, other),
            ]
    for person in people:
        found += [
            lambda person=person: leaving(day, person, 12), lambda person=person: end_map(day, person),
            lambda person=person: never_later(day, longer(day, 3), person),
            lambda person=person: same_ends(day, longer(day, 3), person),
            lambda person=person: latest_leaving(day, person),
            lambda person=person: put_in(day, ways, Meeting("new", "b", 3, 90, 5), person),
            lambda person=person: with_meeting(day, ways, Meeting("new", "b", 3, 90, 5), {person: 0}),
        ]
    for person, name in legs:
        found += [
            lambda person=person, name=name: day.leg_map(person, name),
            lambda person=person, name=name: slack(day, person, name),
            lambda person=person, name=name: start_map(day, person, name),
        ]
    lines = ["late", "slack", "table"]
    lines += [f"{word} {name}" for word in ("when", "moves", "why", "drop") for name in names]
    found.append(lambda: console(ways, day, lines))
    return found


def drawn(seed, many):
    """Days with their ways, changes and parts."""
    rng = random.Random(seed)
    found = []
    for day, parts in some_days(seed + 1, many, most=5, wide=60):
        found.append((day, made_ways(parts[0]), Changes(*some_changes(rng, parts, 4)), parts))
    return found


class ReadBack(unittest.TestCase):
    def test_the_same_answers_to_every_question(self):
        many = 0
        for day, ways, changes, _ in drawn(481, 40):
            other_ways, other = read_day(write_day(ways, day))
            rows = zip(questions(day, ways, changes), questions(other, other_ways, changes), strict=True)
            for one, two in rows:
                self.assertEqual(parts_of(answer_of(one)), parts_of(answer_of(two)))
                many += 1
        self.assertTrue(many > 3000, many)


class Unchanged(unittest.TestCase):
    def test_days_ways_and_changes_stay(self):
        """Every question leaves all that it gets as it was, and every returned list and dictionary is new."""
        for day, ways, changes, _ in drawn(482, 25):
            before = parts_of((day, ways, changes))
            calls = questions(day, ways, changes)
            answers = [parts_of(answer_of(call)) for call in calls]
            for call in calls:
                answer = answer_of(call)
                spoil(answer)
            self.assertEqual(parts_of((day, ways, changes)), before)
            self.assertEqual([parts_of(answer_of(call)) for call in calls], answers)

    def test_objects_copy_what_they_get(self):
        rows = [(0, 5, True), (9, 20, False), (21, 21, True)]
        f = Rising(rows)
        minutes = [20, 5]
        g = by_slots(60, minutes)
        meetings, people = list(example().meetings), list(example().people)
        day = Day(example_ways(), meetings, people)
        legs, lengths = {("ann", "last"): 5}, {"first": 9}
        changes = Changes(legs, lengths, 2)
        options = [("b", 0, 90, 5), ("a", 0, 90, 5)]
        stages = [(5, options)]
        told = Told(example_ways(), stages)
        deadline = told.deadline(0, "a")
        names = ["x", "y"]
        error = BadRing(names)
        for passed in (rows, minutes, meetings, people, legs, lengths, options, stages, names):
            passed.clear()
        self.assertEqual(str(f), "0:5+ 9:20 21:21+")
        self.assertEqual(g, by_slots(60, [20, 5]))
        self.assertEqual(day, example())
        self.assertEqual((changes.legs, changes.lengths), ({("ann", "last"): 5}, {"first": 9}))
        self.assertEqual(told.deadline(0, "a"), deadline)
        self.assertEqual(error.names, ["x", "y"])

    def test_told_keeps_its_ways(self):
        ways = example_ways()
        told = Told(ways, [(5, [("b", 0, 90, 5)])])
        deadline = told.deadline(0, "a")
        ways["a", "b"] = Rising.steady(500)
        self.assertEqual((told.deadline(0, "a"), told.ways), (deadline, example_ways()))

    def test_calls_that_only_change_an_object_return_none(self):
        ways = example_ways()
        calendar = Calendar(ways, example())
        new = Meeting("new", "b", 0, 300, 12)
        self.assertIsNone(ways.__setitem__(("a", "b"), Rising.stay()))
        for answer in (
            calendar.move("first", 21), calendar.delay("ann", "last", 3), calendar.lengthen("last", 3),
            calendar.leave("ann", 3), calendar.put(new, {"ann": 1}), calendar.drop("new"), calendar.undo(),
            calendar.do_all(("drop", "last")), calendar.load(example()),
        ):
            self.assertIsNone(answer)


class TuplesForLists(WaysCase):
    def same(self, function, passed):
        """The function takes a tuple as it takes the list, and leaves both as they are."""
        kept = list(passed)
        one, two = answer_of(lambda: function(passed)), answer_of(lambda: function(tuple(passed)))
        self.assertEqual(parts_of(one), parts_of(two))
        self.assertEqual(passed, kept)
        return one

    def test_maps(self):
        rows = [(0, 5, True), (9, 20, False), (20, 20, True)]
        self.assertEqual(self.same(Rising, rows), Rising(rows))
        self.same(Rising, [])
        self.same(Rising, rows[1:])
        self.same(lambda minutes: by_slots(60, minutes), [20, 5, 7, 0])
        self.same(lambda minutes: ride(60, minutes, 70), [20, 5, 7, 0])
        for wrong in ([], [-1], [5] * 49):
            self.same(lambda minutes: by_slots(60, minutes), wrong)
            self.same(lambda minutes: ride(60, minutes, 70), wrong)

    def test_days(self):
        meetings, people = list(example().meetings), list(example().people)
        self.same(lambda passed: Day(example_ways(), passed, people), meetings)
        self.same(lambda passed: Day(example_ways(), meetings, passed), people)
        self.same(lambda passed: Day(example_ways(), passed, people), meetings[:2])
        self.same(lambda passed: Day(example_ways(), meetings, passed), people * 2)
        self.assertEqual(Day(example_ways(), tuple(meetings), tuple(people)), example())

    def test_chains(self):
        day = example()
        for rows in (chain(day, "last"), [], [("leaves", "ann")], [("opens", "first"), ("ann", "last")]):
            self.same(lambda passed: check_chain(day, passed), rows)

    def test_changes(self):
        day = example()
        changes = Changes({("ann", "last"): 5}, {"first": 700 - 100, "both": 9}, 2)
        leg = ("ann", "last")
        for chosen in ([], ["first"], ["first", "first", leg], ["first", "both", leg], ["none"]):
            self.same(lambda passed: changed(day, changes, passed), chosen)
        for rows in (worst_chain(day, changes, "last"), [], [("opens", "first"), ("ann", "both", True, True)]):
            self.same(lambda passed: check_changed_chain(day, changes, passed), rows)
        for table in some_tables(day, changes):
            lists = {name: list(table[name]) for name in table}
            tuples = {name: tuple(table[name]) for name in table}
            self.assertIs(check_table(day, changes, lists), check_table(day, changes, tuples))

    def test_told(self):
        stages = [(20, [("a", 0, 60, 5), ("b", 40, 95, 10)]), (0, [("b", 50, 190, 0)])]
        told = self.same(lambda passed: Told(example_ways(), passed), stages)
        other = Told(example_ways(), tuple((minute, tuple(options)) for minute, options in stages))
        self.assertEqual(plan_table(told), plan_table(other))
        self.assertEqual(len(plan_table(told)), 6)
        self.same(lambda passed: check_plan(told, passed), plan_table(told))
        self.same(lambda passed: check_plan(told, passed), plan_table(told)[:2])
        self.same(lambda passed: Told(example_ways(), passed), stages * 4)
        self.same(lambda passed: Told(example_ways(), [(3, passed)]), [("a", 0, 60, 5)] * 7)

    def test_errands(self):
        errands = [("b", 0, 90, 5), ("a", 40, 95, 10), ("b", 50, 190, 0)]
        for passed in (errands, [], errands * 3, [("zz", 0, 90, 5)]):
            self.same(lambda told: best_end(example_ways(), "a", 3, told), passed)
            self.same(lambda told: latest_begin(example_ways(), "a", told), passed)

    def test_console(self):
        lines = ["table", "drop both", "when both", "slack", ""]
        self.same(lambda passed: console(example_ways(), example(), passed), lines)
        self.same(lambda passed: console(example_ways(), example(), passed), [])


class Errors(unittest.TestCase):
    def test_all_derive_directly(self):
        kinds = [kind for kind in vars(errors).values() if isinstance(kind, type)]
        self.assertEqual(len(kinds), 13)
        self.assertEqual(CalendarError.__bases__, (ValueError,))
        for kind in kinds:
            if kind is not CalendarError:
                self.assertEqual(kind.__bases__, (CalendarError,))

    def test_refused_calls_change_nothing(self):
        ways = example_ways()
        calendar = Calendar(ways, example())
        calendar.leave("ann", 6)
        before = parts_of((ways, calendar))
        calls = [
            lambda: ways.__setitem__(("a", "a"), Rising.stay()), lambda: ways.__setitem__(("a", "z"), Rising.stay()),
            lambda: ways.told("a", "c"), lambda: ways["a", "z"], lambda: ways + -1,
            lambda: calendar.move("first", -1), lambda: calendar.delay("ann", "zz", 5),
            lambda: calendar.lengthen("x", 5), lambda: calendar.leave("ann", 2881), lambda: calendar.drop("x"),
            lambda: calendar.do_all(("drop", "last"), ("undo",)),
            lambda: calendar.put(Meeting("new", "b", 0, 300, 12), {"ann": 3, "bob": 0}),
        ]
        for call in calls:
            self.assertIsInstance(answer_of(call)[0], type)
            self.assertEqual(parts_of((ways, calendar)), before)

    def test_numbers_in_objects_are_never_true_or_false(self):
        """True equals 1; no function takes it for a number."""
        day = example()
        for call in (
            lambda: Rising.stay()(True), lambda: Rising.stay().back(True), lambda: Rising.stay() + True,
            lambda: Rising.steady(True), lambda: Rising.since(False), lambda: by_slots(True, [1]),
            lambda: by_slots(1, [True]), lambda: Meeting("x", "y", False, 5, 5), lambda: Meeting("x", "y", 0, True, 5),
            lambda: Meeting("x", "y", 0, 5, True), lambda: Person("x", "y", True), lambda: fixed(day, "first", True),
            lambda: longer(day, True), lambda: leaving(day, "ann", True),
            lambda: Rides((True, 5)), lambda: Rides((0, True)),
            lambda: Rides().at_least(True), lambda: Changes({}, {"x": True}, 0), lambda: Changes({}, {}, True),
            lambda: best_end(example_ways(), "a", True, []), lambda: example_ways() + True,
            lambda: Told(example_ways(), [(True, [("a", 0, 1, 1)])]),
            lambda: Calendar(example_ways(), day).delay("ann", "last", True),
        ):
            self.assertIs(answer_of(call)[0], errors.BadNumber)
        self.assertIs(is_name(True), False)


class LongMeetings(unittest.TestCase):
    """Meetings beyond the limit, made by lengthen and by changes, against the models."""

    def cases(self, seed, many, most=4):
        """(day, ways, parts): some meetings of the parts are longer than 600."""
        rng = random.Random(seed)
        found = []
        for _, (roads, meetings, people) in some_days(seed + 1, many, most):
            wide = [row[:3] + (row[3] + rng.choice([0, 800, 1900]), row[4]) for row in meetings]
            extra = {row[0]: rng.choice([0, 0, 600, 700]) + 600 - row[4] for row in wide if rng.random() < 0.6}
            extra = {name: more for name, more in extra.items() if more > 0}
            day = made_day(roads, wide, people)
            calendar = Calendar(made_ways(roads), day)
            for name, more in extra.items():
                if more <= 600 and rng.random() < 0.5:
                    calendar.load(changed(calendar.day, Changes({}, {name: more}, 1), [name]))
                else:
                    calendar.lengthen(name, more)
            parts = (roads, [row[:4] + (row[4] + extra.get(row[0], 0),) for row in wide], people)
            found.append((calendar.day, made_ways(roads), parts))
        self.assertTrue(sum(any(row[4] > 600 for row in parts[1]) for _, _, parts in found) > many // 3)
        return found

    def test_days_and_starts(self):
        kept = 0
        for day, ways, parts in self.cases(483, 80):
            starts = walk_starts(*parts)
            self.assertEqual(earliest(day), starts)
            self.assertEqual(late(day), [row[0] for row in parts[1] if starts[row[0]] > row[3]])
            self.assertEqual(fault(day, starts), walk_fault(*parts, starts))
            kept += can_be_kept(day)
            self.assertEqual([day[row[0]].length for row in parts[1]], [row[4] for row in parts[1]])
            other = Day(Ways("z"), [Meeting("zz", "z", 0, 5, 5)], [])
            self.assertEqual((day + other).meetings[:-1], day.meetings)
            self.assertEqual(earliest(other + day), {"zz": 0, **starts})
            for row in parts[1]:
                name = row[0]
                self.assertEqual(fixed(day, name, 9)[name].length, row[4])
                self.assertEqual(longer(day, 3)[name].length, row[4])
                shown = read_chain(parts, chain(day, name))
                self.assertEqual(shown, (name, starts[name]))
                self.assertEqual(check_chain(day, chain(day, name)), shown)
                self.assertIn(f"meet {name} {row[1]} {row[2]} {row[3]} {row[4]}\n", write_day(ways, day))
                self.assertEqual(console(ways, day, [f"when {name}"]), [str(starts[name])])
        self.assertTrue(15 < kept < 70, kept)

    def test_moves_and_slack(self):
        many = 0
        for day, _, parts in self.cases(484, 70):
            ends = latest_starts(day)
            self.assertEqual(ends is None, not can_be_kept(day))
            if ends is None:
                continue
            many += 1
            self.assertIsNone(walk_fault(*parts, ends))
            for name, last in ends.items():
                self.assertEqual(moves(day, name), (earliest(day)[name], last))
                self.assertEqual(moves_with(day, name, last, name), (last, last))
                later = last < day[name].latest and can_be_kept(fixed(day, name, last + 1))
                self.assertFalse(later)
                both = meet_at(day, name, day.meetings[0].name)
                for minute in both[:3] + both[-3:]:
                    first, until = moves_with(day, name, minute, day.meetings[0].name)
                    self.assertTrue(first <= minute <= until)
            for person, name, minutes in slacks(day):
                self.assertEqual(slack(day, person, name), minutes)
                self.assertTrue(can_be_kept(longer(day, minutes, (person, name))))
                self.assertFalse(can_be_kept(longer(day, minutes + 1, (person, name))))
            for person, name, latest, minutes in spare(day, ends):
                before = told_legs(parts)[person, name][0]
                begin = ends[before] if before else leaving_home(parts, person)
                self.assertEqual(minutes, ends[name] - leg_arrival(parts, (person, name), begin))
                self.assertEqual(latest, day.leg_map(person, name).back(ends[name]))
            if day.legs:
                n = slack_of_all(day)
                self.assertTrue(can_be_kept(longer(day, n)))
                self.assertFalse(can_be_kept(longer(day, n + 1)))
        self.assertTrue(many > 20, many)

    def test_changes(self):
        rng = random.Random(485)
        sure = 0
        for day, _, parts in self.cases(486, 60, most=3):
            legs, lengths, most = some_changes(rng, parts, 3)
            changes = Changes(legs, lengths, most)
            table = worst_starts(parts, legs, lengths, most)
            self.assertEqual(worst(day, changes), table)
            latest = {row[0]: row[3] for row in parts[1]}
            delays = [table[name][-1] - latest[name] for name in table]
            self.assertEqual((lateness(day, changes), safe(day, changes)), (max(delays), max(delays) <= 0))
            self.assertIs(check_table(day, changes, table), True)
            for name in table:
                less = dict(table)
                less[name] = table[name][:-1] + (table[name][-1] - 1,)
                self.assertIs(check_table(day, changes, less), table_holds(parts, legs, lengths, most, less))
                rows = worst_chain(day, changes, name)
                self.assertEqual(read_chain(parts, rows, legs, lengths, most)[:2], (name, table[name][-1]))
                self.assertEqual(check_changed_chain(day, changes, rows)[:2], (name, table[name][-1]))
            chosen = (list(legs) + list(lengths))[:most]
            right = changed_starts(parts, legs, lengths, chosen)
            self.assertEqual(earliest(changed(day, changes, chosen)), right)

            name = rng.choice(list(table))
            under = latest_under(day, changes)[name][-1]
            found = surely(day, changes, name)
            if not safe(day, changes) or under is None or under < table[name][-1]:
                self.assertIsNone(found)
            else:
                self.assertEqual(found, (table[name][-1], under))
                self.assertTrue(in_time_from(parts, legs, lengths, name, under, most))
                self.assertFalse(in_time_from(parts, legs, lengths, name, under + 1, most))
                sure += 1
        self.assertTrue(sure > 10, sure)

    def test_whole_days(self):
        for day, _, (roads, meetings, people) in self.cases(487, 50):
            lengths = {row[0]: row[4] for row in meetings}
            for place, (person, home, _, row) in enumerate(people):
                for minute in (0, 21, 700, 2880):
                    told = people[:place] + [(person, home, minute, row)] + people[place + 1:]
                    starts = walk_starts(roads, meetings, told)
                    self.assertEqual(earliest(leaving(day, person, minute)), starts)
                    for name in row:
                        self.assertEqual(start_map(day, person, name)(minute), starts[name])
                    end = starts[row[-1]] + lengths[row[-1]] if row else minute
                    self.assertEqual(end_map(day, person)(minute), end)
                self.assertTrue(same_ends(day, day, person))
                self.assertTrue(never_later(day, longer(day, 2), person))
                last = latest_leaving(day, person)
                if last is not None:
                    self.assertTrue(can_be_kept(leaving(day, person, last)))
                    self.assertFalse(last < 2880 and can_be_kept(leaving(day, person, last + 1)))
                elif row:
                    self.assertFalse(can_be_kept(leaving(day, person, 0)))

    def test_putting_and_dropping(self):
        found = 0
        for day, ways, (roads, meetings, people) in self.cases(488, 50):
            new = ("new", "b", 10, 1500, 20)
            for place, (person, home, leaves, row) in enumerate(people):
                for gap in range(len(row) + 1):
                    told = list(row[:gap]) + ["new"] + list(row[gap:])
                    others = people[:place] + [(person, home, leaves, told)] + people[place + 1:]
                    made = answer_of(lambda: with_meeting(day, ways, Meeting(*new), {person: gap}))
                    if isinstance(made, Day):
                        self.assertEqual(earliest(made), walk_starts(roads, meetings + [new], others))
                        bounds = [entry[1:] for entry in put_in(day, ways, Meeting(*new), person) if entry[0] == (gap,)]
                        self.assertEqual(bounds, [moves(made, "new")] if can_be_kept(made) else [])
                        found += len(bounds)
            calendar = Calendar(ways, day)
            name = meetings[0][0]
            calendar.drop(name)
            rest = [(person, home, leaves, [x for x in row if x != name]) for person, home, leaves, row in people]
            self.assertEqual(earliest(calendar.day), walk_starts(roads, meetings[1:], rest))
            if meetings[0][4] > 600:
                other = with_meeting(calendar.day, ways, day[name], {})
                self.assertEqual(other[name], day[name])
        self.assertTrue(found > 20, found)


class Example(unittest.TestCase):
    def test_of_point_one(self):
        """All questions of the overview, over one day."""
        day, ways = example(), example_ways()
        self.assertTrue(can_be_kept(day))
        late_day = fixed(day, "both", 79)
        self.assertEqual(late(late_day), ["both"])
        self.assertEqual(check_chain(late_day, chain(late_day, "both")), ("both", 80))
        self.assertEqual(moves(day, "both"), (80, 90))
        self.assertTrue(can_be_kept(longer(day, slack_of_all(day))))
        changes = Changes({("bob", "both"): 10}, {"first": 30}, 1)
        self.assertEqual(worst(day, changes)["both"], (80, 90))
        self.assertTrue(check_table(day, changes, worst(day, changes)))
        self.assertEqual(check_changed_chain(day, changes, worst_chain(day, changes, "both"))[1], 90)
        told = Told(ways, [(20, [("a", 0, 60, 5), ("b", 40, 95, 10)])])
        self.assertEqual(told.wait_at(0, "a", 5), "a")
        self.assertTrue(check_plan(told, plan_table(told)))
        roads = {pair: ways.told(*pair) for pair in (("a", "b"), ("c", "b"), ("b", "a"))}
        errands = [("b", 0, 90, 5), ("a", 40, 95, 10)]
        self.assertEqual(best_end(ways, "a", 0, errands), Errands(roads, errands).best("a", 0))
        self.assertEqual(read_rising(str(ways["c", "a"])), ways["c", "a"])


if __name__ == "__main__":
    unittest.main()

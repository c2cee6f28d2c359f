"""Points 28 and 29: changes, and what happens at worst."""

import random
import unittest

from days import example, some_days
from laterways.changes import Changes, changed, lateness, safe, worst
from laterways.day import Day, Meeting, Person
from laterways.earliest import earliest
from laterways.rising import Rising
from laterways.sure import latest_under, surely
from laterways.tables import check_changed_chain, check_table, worst_chain
from laterways.ways import Ways
from models import changed_starts, sets_of, told_legs, worst_starts
from test_day import NO_INTEGERS
from test_ways import NO_NAMES, WaysCase

LAST = ("ann", "last")
BOTH = ("bob", "both")


def some_changes(rng, parts, most_kinds, longest=15):
    """Legs and lengths that may take longer, and how many changes come."""
    kinds = list(told_legs(parts)) + [meeting[0] for meeting in parts[1]]
    kinds = rng.sample(kinds, rng.randint(0, min(most_kinds, len(kinds))))
    legs = {kind: rng.randint(1, longest) for kind in kinds if isinstance(kind, tuple)}
    lengths = {kind: rng.randint(1, longest) for kind in kinds if not isinstance(kind, tuple)}
    return legs, lengths, rng.randint(0, len(kinds) + 1)


def example_changes(most=2):
    return Changes({LAST: 5, BOTH: 7}, {"first": 30, "both": 9}, most)


class Point28Made(WaysCase):
    def test_attributes(self):
        changes = example_changes()
        self.assertEqual(vars(changes), {"legs": {LAST: 5, BOTH: 7}, "lengths": {"first": 30, "both": 9}, "most": 2})
        self.assertEqual(list(changes.legs), [LAST, BOTH])
        named = Changes(most=0, lengths={}, legs={})
        self.assertEqual((named.legs, named.lengths, named.most), ({}, {}, 0))

    def test_own_dictionaries(self):
        legs, lengths = {LAST: 5}, {"first": 30}
        changes = Changes(legs, lengths, 1)
        legs[BOTH], lengths["both"] = 3, 4
        legs[LAST] = 1000
        self.assertEqual((changes.legs, changes.lengths), ({LAST: 5}, {"first": 30}))
        self.assertEqual(worst(example(), changes), {"last": (95, 100), "both": (80, 85), "first": (20, 20)})

    def test_limits(self):
        changes = Changes({LAST: 1, BOTH: 600}, {"first": 600, "both": 1}, 20)
        self.assertEqual((changes.legs, changes.lengths, changes.most), ({LAST: 1, BOTH: 600}, {"first": 600, "both": 1}, 20))
        self.assertEqual(Changes({}, {}, 0).most, 0)

    def test_extras(self):
        for wrong in [0, 601, -1] + NO_INTEGERS:
            self.bad_number("extra", wrong, lambda: Changes({LAST: wrong}, {}, 1))
            self.bad_number("extra", wrong, lambda: Changes({}, {"first": wrong}, 1))
            self.bad_number("extra", wrong, lambda: Changes({LAST: 1, BOTH: wrong}, {"first": 700}, -1))
            self.bad_number("extra", wrong, lambda: Changes({LAST: 1, BOTH: 2}, {"first": 3, "both": wrong}, -1))

    def test_in_the_order_of_the_dictionaries(self):
        self.bad_number("extra", 601, lambda: Changes({LAST: 601, BOTH: 602}, {"first": 603}, 21))
        self.bad_number("extra", 602, lambda: Changes({BOTH: 602, LAST: 601}, {"first": 603}, 21))
        self.bad_number("extra", 604, lambda: Changes({BOTH: 1}, {"both": 604, "first": 603}, 21))

    def test_then_most(self):
        for wrong in [-1, 21] + NO_INTEGERS:
            self.bad_number("most", wrong, lambda: Changes({LAST: 1}, {"first": 3}, wrong))
            self.bad_number("most", wrong, lambda: Changes({}, {}, wrong))

    def test_names_are_not_checked(self):
        changes = Changes({("", "X"): 5, ("zed", "none"): 6}, {"NO NAME": 1, "": 2}, 3)
        self.assertEqual(list(changes.legs), [("", "X"), ("zed", "none")])
        self.assertEqual(list(changes.lengths), ["NO NAME", ""])


class Point28Changed(WaysCase):
    def check_changed(self, day, legs, lengths, most, chosen):
        made = changed(day, Changes(legs, lengths, most), chosen)
        self.assertIs(made.__class__, Day)
        self.assertEqual((made.people, made.legs, made.order()), (day.people, day.legs, day.order()))
        for leg in day.legs:
            extra = legs[leg] if leg in chosen else 0
            self.assertEqual(made.leg_map(*leg), day.leg_map(*leg) + extra)
        self.assertEqual(len(made), len(day))
        for meeting, was in zip(made.meetings, day.meetings):
            extra = lengths[was.name] if was.name in chosen else 0
            self.assertEqual(vars(meeting), {**vars(was), "length": was.length + extra})
        return made

    def test_example(self):
        legs, lengths = {LAST: 5, BOTH: 7}, {"first": 30, "both": 9}
        for chosen in sets_of([LAST, BOTH, "first", "both"], 4):
            self.check_changed(example(), legs, lengths, 4, list(chosen))
            self.check_changed(example(), legs, lengths, 20, chosen)
        self.assertEqual(changed(example(), example_changes(), []), example())

    def test_listed_twice(self):
        made = self.check_changed(example(), {LAST: 5}, {"both": 9}, 2, [LAST, "both", LAST, LAST, "both"])
        self.assertEqual(made["both"].length, 24)
        self.assertEqual(made.leg_map(*LAST), Rising.steady(5))

    def test_a_length_beyond_the_limit(self):
        made = self.check_changed(example(), {}, {"first": 600}, 1, ["first"])
        self.assertEqual(made["first"].length, 630)
        again = changed(made, Changes({}, {"first": 600}, 1), ["first"])
        self.assertEqual(again["first"].length, 1230)
        self.assertEqual(earliest(again), {"last": 1270, "both": 1255, "first": 20})

    def test_earliest_starts_of_many_changed_days(self):
        rng = random.Random(281)
        for day, parts in some_days(282, 60):
            legs, lengths, most = some_changes(rng, parts, 6)
            kinds = list(legs) + list(lengths)
            chosen = rng.sample(kinds, rng.randint(0, min(most, len(kinds))))
            made = self.check_changed(day, legs, lengths, most, chosen)
            self.assertEqual(earliest(made), changed_starts(parts, legs, lengths, chosen))

    def test_what_changes_does_not_have(self):
        day = example()
        for wrong in NO_NAMES + ["last", "zed", ("ann", "both"), ("last", "ann"), ("first",), (), ("ann", "last", 1)]:
            self.bad_name(wrong, lambda: changed(day, example_changes(), [wrong]))
            self.bad_name(wrong, lambda: changed(day, example_changes(), [LAST, wrong, "none"]))
            self.bad_name(wrong, lambda: changed(day, example_changes(0), [LAST, "both", wrong, "none"]))
        self.assertEqual(day, example())

    def test_more_than_most_different_ones(self):
        day = example()
        self.bad_number("most", 3, lambda: changed(day, example_changes(2), [LAST, "both", BOTH]))
        self.bad_number("most", 3, lambda: changed(day, example_changes(2), [LAST, "both", LAST, BOTH, BOTH]))
        self.bad_number("most", 1, lambda: changed(day, example_changes(0), ["first", "first"]))
        self.bad_number("most", 4, lambda: changed(day, example_changes(3), (LAST, "both", BOTH, "first")))
        self.assertEqual(changed(day, example_changes(1), ["both"] * 3)["both"].length, 24)

    def test_what_was_passed_stays(self):
        day, changes, chosen = example(), example_changes(), [LAST, "both", LAST]
        changed(day, changes, chosen)
        worst(day, changes)
        self.assertEqual(chosen, [LAST, "both", LAST])
        self.assertEqual(vars(changes), vars(example_changes()))
        self.assertEqual(day, example())

    def test_every_function_checks_the_names_first(self):
        day = example()
        calls = [
            lambda changes: changed(day, changes, ["none", (), 5]), lambda changes: worst(day, changes),
            lambda changes: safe(day, changes), lambda changes: lateness(day, changes),
            lambda changes: check_table(day, changes, {}), lambda changes: check_changed_chain(day, changes, []),
            lambda changes: worst_chain(day, changes, "nobody"), lambda changes: surely(day, changes, "nobody"),
            lambda changes: latest_under(day, changes),
        ]
        cases = [
            ("none", Changes({("ann", "none"): 5}, {}, 1)), ("first", Changes({LAST: 2, ("zed", "first"): 5}, {}, 1)),
            ("first", Changes({("bob", "first"): 5, ("ann", "no"): 1}, {"none": 4}, 1)),
            ("none", Changes({LAST: 5}, {"first": 2, "none": 4, "no": 3}, 1)),
            ("last", Changes({("last", "last"): 5}, {"none": 4}, 0)), ("ann", Changes({LAST: 5}, {"ann": 4}, 0)),
            ("", Changes({("ann", ""): 5}, {"": 2}, 2)), (None, Changes({}, {None: 2}, 2)),
            (True, Changes({("ann", True): 1}, {}, 2)), ("both", Changes({("zed", "both"): 1, ("ann", "x"): 2}, {}, 2)),
        ]
        for call in calls:
            for name, changes in cases:
                self.bad_name(name, lambda: call(changes))
        self.assertEqual(day, example())


class Point29(WaysCase):
    def test_example(self):
        day = example()
        found = worst(day, example_changes())
        self.assertEqual(found, {"last": (95, 104, 111), "both": (80, 87, 87), "first": (20, 20, 20)})
        self.assertEqual(list(found), ["last", "both", "first"])
        self.assertEqual([row.__class__ for row in found.values()], [tuple] * 3)
        self.assertIs(safe(day, example_changes()), True)
        self.assertEqual(lateness(day, example_changes()), -3)
        self.assertIs(safe(day, example_changes(0)), True)
        self.assertEqual(lateness(day, example_changes(0)), -5)
        for minutes, answer in ((10, True), (11, False)):
            changes = Changes({BOTH: minutes}, {}, 1)
            self.assertIs(safe(day, changes), answer)
            self.assertEqual(lateness(day, changes), minutes - 10)

    def test_at_latest_is_safe(self):
        for latest, answer, delay in ((9, True, 0), (8, False, 1), (10, True, -1)):
            day = Day(Ways("a"), [Meeting("one", "a", 0, latest, 1)], [Person("ann", "a", 4, "one")])
            changes = Changes({("ann", "one"): 5}, {}, 1)
            self.assertIs(safe(day, changes), answer)
            self.assertEqual(lateness(day, changes), delay)

    def test_without_meetings(self):
        day = Day(Ways("a"), [], [Person("ann", "a", 4)])
        changes = Changes({}, {}, 3)
        self.assertEqual(worst(day, changes), {})
        self.assertIs(safe(day, changes), True)
        self.assertIsNone(lateness(day, changes))

    def test_most_changes(self):
        day = example()
        self.assertEqual(worst(day, example_changes(20))["last"], (95, 104, 111, 116) + (116,) * 17)
        self.assertEqual(worst(day, Changes({}, {}, 20)), {name: (at,) * 21 for name, at in earliest(day).items()})

    def test_against_all_sets_of_changes(self):
        rng = random.Random(291)
        seen = {True: 0, False: 0}
        rises = 0
        for day, parts in some_days(292, 400):
            legs, lengths, most = some_changes(rng, parts, 5)
            changes = Changes(legs, lengths, most)
            table = worst_starts(parts, legs, lengths, most)
            found = worst(day, changes)
            self.assertEqual(found, table)
            self.assertEqual(list(found), list(table))
            delays = [table[meeting.name][-1] - meeting.latest for meeting in day.meetings]
            self.assertEqual(lateness(day, changes), max(delays))
            self.assertIs(safe(day, changes), max(delays) <= 0)
            seen[max(delays) <= 0] += 1
            rises += sum(len(set(row)) > 2 for row in table.values())
        self.assertTrue(seen[True] > 20 and seen[False] > 20 and rises > 50, (seen, rises))

    def test_returned_dictionaries_are_new(self):
        day, changes = example(), example_changes()
        worst(day, changes).clear()
        worst(day, changes)["last"] = ()
        self.assertEqual(worst(day, changes), {"last": (95, 104, 111), "both": (80, 87, 87), "first": (20, 20, 20)})


if __name__ == "__main__":
    unittest.main()

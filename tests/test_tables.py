"""Points 30 and 31: tables and changed chains."""

import random
import unittest

from days import example, some_days
from laterways.changes import Changes, changed, worst
from laterways.day import Day, Meeting, Person
from laterways.earliest import earliest
from laterways.errors import BadName
from laterways.tables import check_changed_chain, check_table, worst_chain
from laterways.ways import Ways
from models import all_chains, read_chain, table_holds, told_legs, worst_starts
from test_changes import BOTH, LAST, example_changes, some_changes
from test_chains import STRANGE_PERSONS, ChainsCase, some_row
from test_ways import NO_NAMES, WaysCase

EXAMPLE = {"last": [95, 104, 111], "both": [80, 87, 87], "first": [20, 20, 20]}


def drawn(seed, many, persons="abcdefgh", most_kinds=6):
    """Days with changes: (day, parts, legs, lengths, most, changes)."""
    rng = random.Random(seed)
    found = []
    for day, parts in some_days(seed + 1, many, persons=persons):
        legs, lengths, most = some_changes(rng, parts, most_kinds)
        found.append((day, parts, legs, lengths, most, Changes(legs, lengths, most)))
    return found


class Point30(WaysCase):
    def answers(self, table, answer, day=None, changes=None):
        told = example() if day is None else day
        self.assertIs(check_table(told, example_changes() if changes is None else changes, table), answer)

    def changed_table(self, name, row):
        table = {key: list(EXAMPLE[key]) for key in EXAMPLE}
        table[name] = row
        return table

    def test_the_table_of_worst_is_taken(self):
        self.answers(EXAMPLE, True)
        self.answers({name: tuple(row) for name, row in EXAMPLE.items()}, True)
        for day, _, _, _, _, changes in drawn(301, 100):
            table = worst(day, changes)
            self.answers(table, True, day, changes)
            self.answers({name: list(table[name]) for name in list(table)[::-1]}, True, day, changes)

    def test_each_entry_of_the_example(self):
        """All entries of worst are needed, but that of a meeting may be greater if those behind it are."""
        for name in EXAMPLE:
            for at in range(3):
                less = list(EXAMPLE[name])
                less[at] -= 1
                self.answers(self.changed_table(name, less), False)
        self.answers(self.changed_table("last", [1000, 1000, 1000]), True)
        self.answers(self.changed_table("last", [1000, 104, 2000]), True)
        self.answers(self.changed_table("both", [81, 87, 87]), False)
        self.answers(self.changed_table("first", [22, 22, 45]), True)
        self.answers(self.changed_table("first", [22, 23, 22]), False)
        self.answers(self.changed_table("last", [95, 10 ** 40, 111]), True)

    def test_a_meeting_that_lacks(self):
        for name in EXAMPLE:
            self.answers({key: EXAMPLE[key] for key in EXAMPLE if key != name}, False)
        self.answers({}, False)

    def test_other_keys(self):
        self.answers({"zz": 5, **EXAMPLE, "none": None, None: [1], ("ann", "last"): [True], 3: ()}, True)

    def test_numbers_of_another_form(self):
        for name in EXAMPLE:
            row = EXAMPLE[name]
            for wrong in (None, True, 5, "abc", "", {0: 95, 1: 200, 2: 300}, [], (), row[:2], row + [1000], row[:1]):
                self.answers(self.changed_table(name, wrong), False)
            self.answers(self.changed_table(name, tuple(row)), True)

    def test_entries_of_another_form(self):
        for name in EXAMPLE:
            for at in range(3):
                for wrong in (True, False, None, "95", 95.0, [95], -1):
                    row = [1000] * 3 if name == "last" else list(EXAMPLE[name])
                    row[at] = wrong
                    self.answers(self.changed_table(name, row), False)

    def test_entries_less_than_opens(self):
        day = Day(Ways("a"), [Meeting("one", "a", 7, 9, 1), Meeting("two", "a", 0, 9, 1)], [])
        changes = Changes({}, {}, 1)
        self.answers({"one": [7, 7], "two": [0, 0]}, True, day, changes)
        self.answers({"one": [9, 8], "two": [3, 1]}, True, day, changes)
        self.answers({"one": [7, 6], "two": [0, 0]}, False, day, changes)
        self.answers({"one": [6, 7], "two": [0, 0]}, False, day, changes)
        self.answers({"one": [7, 7], "two": [0, -1]}, False, day, changes)
        self.answers({"one": [7, True], "two": [0, 0]}, False, day, changes)
        self.answers({"one": [7, 7], "two": [0, True]}, False, day, changes)

    def test_no_meetings(self):
        day = Day(Ways("a"), [], [Person("ann", "a", 5)])
        self.answers({}, True, day, Changes({}, {}, 0))
        self.answers({"zz": None}, True, day, Changes({}, {}, 0))

    def test_both_changes_of_one_leg(self):
        """The entry j - i goes down by 0, 1 and 2."""
        day = Day(Ways("a"), [Meeting("one", "a", 0, 90, 10), Meeting("two", "a", 0, 90, 1)], [Person("ann", "a", 5, "one", "two")])
        changes = Changes({("ann", "one"): 1, ("ann", "two"): 20}, {"one": 300}, 3)
        table = {"one": [5, 6, 6, 6], "two": [15, 315, 335, 336]}
        self.answers(table, True, day, changes)
        for at in range(4):
            row = list(table["two"])
            row[at] -= 1
            self.answers({"one": table["one"], "two": row}, False, day, changes)
        self.assertEqual(worst(day, changes), {name: tuple(row) for name, row in table.items()})

    def test_against_the_rule(self):
        rng = random.Random(303)
        seen = {True: 0, False: 0}
        for day, parts, legs, lengths, most, changes in drawn(304, 150):
            for _ in range(8):
                table = {name: list(row) for name, row in worst(day, changes).items()}
                if rng.random() < 0.5:
                    more = rng.randint(0, 5)
                    table = {name: [entry + more for entry in row] for name, row in table.items()}
                name = rng.choice(list(table))
                at = rng.randint(0, most)
                table[name][at] += rng.choice([-2, -1, 1, 2, 9])
                answer = table_holds(parts, legs, lengths, most, table)
                self.answers(table, answer, day, changes)
                if answer:
                    for name, row in worst_starts(parts, legs, lengths, min(most, 2)).items():
                        self.assertTrue(all(mine >= entry for mine, entry in zip(table[name], row)))
                seen[answer] += 1
        self.assertTrue(seen[True] > 100 and seen[False] > 100, seen)

    def test_what_is_taken_is_never_below_worst(self):
        rng = random.Random(305)
        taken = 0
        for day, _, _, _, most, changes in drawn(306, 100):
            found = worst(day, changes)
            for _ in range(20):
                table = {name: [entry + rng.choice([0, 0, 0, 0, -1, 3]) for entry in row] for name, row in found.items()}
                if check_table(day, changes, table):
                    taken += 1
                    for name in found:
                        self.assertTrue(all(mine >= entry for mine, entry in zip(table[name], found[name])))
        self.assertTrue(taken > 100, taken)

    def test_nothing_is_modified(self):
        day, changes, table = example(), example_changes(), self.changed_table("last", [1, 2, 3])
        self.answers(table, False, day, changes)
        self.assertEqual(table, self.changed_table("last", [1, 2, 3]))
        self.assertEqual((day, vars(changes)), (example(), vars(example_changes())))


class Point31Check(ChainsCase):
    def refused_changed(self, row, reason, rows, changes=None, day=None):
        told = example() if day is None else day
        given = example_changes() if changes is None else changes
        self.bad_paper(row, reason, lambda: check_changed_chain(told, given, rows))
        self.bad_paper(row, reason, lambda: check_changed_chain(told, given, tuple(rows)))

    def shows(self, answer, rows, changes=None):
        found = check_changed_chain(example(), example_changes() if changes is None else changes, rows)
        self.assertEqual(found, answer)
        self.assertEqual([part.__class__ for part in found], [str, int, int])
        self.assertIs(found.__class__, tuple)

    def test_example(self):
        self.shows(("first", 20, 0), [("opens", "first")])
        self.shows(("both", 65, 0), [("opens", "first"), ("ann", "both", False, False)])
        self.shows(("both", 85, 1), [("opens", "first"), ("ann", "both", False, True)])
        self.shows(("both", 87, 1), [("leaves", "bob"), ("bob", "both", True, False)])
        self.shows(("last", 111, 2), [("leaves", "bob"), ("bob", "both", True, False), ("ann", "last", False, True)])
        self.shows(("last", 109, 2), (("leaves", "bob"), ("bob", "both", False, False), ("ann", "last", True, True)))

    def test_start(self):
        for rows in (
            [], [()], [("opens",)], [("opens", "first", False, False)], [("leaves", "ann", False, False)],
            [("opens", "none")], [("leaves", "zed")], [("ann", "first")], [("ann", "first", False, False)], [(None, None)],
        ):
            self.refused_changed(0, "start", rows)
            if rows:
                self.refused_changed(0, "start", rows + [("ann", "last", 1, 1)])

    def test_leg(self):
        start = [("opens", "first"), ("ann", "both", False, False)]
        for row in (
            (), ("ann", "last"), ("ann", "last", False), ("ann", "last", False, False, False), ("bob", "last", False, False),
            ("zed", "last", 1, 1), ("last", "ann", False, False), ("opens", "last", False, False), (None, None, None, None),
            ("opens", "last"), ("leaves", "ann"),
        ):
            self.refused_changed(1, "leg", start[:1] + [row])
            self.refused_changed(2, "leg", start + [row])
            self.refused_changed(2, "leg", start + [row, ("ann", "first", None, None)])

    def test_link(self):
        self.refused_changed(1, "link", [("opens", "first"), ("ann", "last", False, False)])
        self.refused_changed(1, "link", [("opens", "first"), ("ann", "last", None, 1)])
        self.refused_changed(1, "link", [("leaves", "ann"), ("bob", "both", True, True)])
        self.refused_changed(2, "link", [("leaves", "bob"), ("bob", "both", True, False), ("bob", "both", True, False)])
        self.refused_changed(1, "link", [("leaves", "bob"), ("ann", "last", True, True), ()])

    def test_change(self):
        start = [("opens", "first"), ("ann", "both", False, True), ("ann", "last", True, True)]
        for wrong in (0, 1, None, "", "True", 0.0, (), -1):
            self.refused_changed(1, "change", [start[0], ("ann", "both", wrong, False), start[2]])
            self.refused_changed(1, "change", [start[0], ("ann", "both", False, wrong)])
            self.refused_changed(2, "change", start[:2] + [("ann", "last", wrong, False)])
            self.refused_changed(2, "change", start[:2] + [("ann", "last", False, wrong), ("ann", "last")])
            self.refused_changed(2, "change", start[:2] + [("ann", "last", wrong, wrong)])
        self.refused_changed(1, "change", [start[0], ("ann", "both", True, False)])
        self.refused_changed(1, "change", [start[0], ("ann", "both", True, True), ("ann", "last", False, False)])
        none = Changes({LAST: 5}, {}, 9)
        self.refused_changed(1, "change", [start[0], ("ann", "both", False, True)], none)
        self.refused_changed(2, "change", [start[0], ("ann", "both", False, False), ("ann", "last", True, True)], none)

    def test_a_long_true_behind_leaves(self):
        for name in ("first", "both", "last"):
            changes = Changes({BOTH: 7}, {name: 9}, 5)
            self.refused_changed(1, "change", [("leaves", "bob"), ("bob", "both", False, True)], changes)
            self.refused_changed(1, "change", [("leaves", "bob"), ("bob", "both", True, True)], changes)
            self.refused_changed(1, "change", [("leaves", "ann"), ("ann", "first", False, True)], changes)

    def test_end(self):
        self.refused_changed(0, "end", [("leaves", "ann")])
        self.refused_changed(0, "end", [("leaves", "ann")], Changes({}, {}, 0))

    def test_most(self):
        rows = [("leaves", "bob"), ("bob", "both", True, False), ("ann", "last", True, True)]
        self.shows(("last", 116, 3), rows, example_changes(3))
        self.refused_changed(3, "most", rows, example_changes(2))
        self.refused_changed(2, "most", rows[:2], example_changes(0))
        self.refused_changed(2, "link", rows[:2] + [rows[1]], example_changes(0))
        self.refused_changed(3, "leg", rows + [()], example_changes(0))
        self.refused_changed(2, "change", rows[:2] + [("ann", "last", True, 1)], example_changes(0))

    def test_people_who_are_called_like_words(self):
        meetings = [Meeting("one", "a", 5, 100, 10), Meeting("two", "a", 7, 100, 20)]
        day = Day(Ways("a"), meetings, [Person("opens", "a", 9, "one", "two"), Person("leaves", "a", 11, "two")])
        changes = Changes({("opens", "two"): 3, ("leaves", "two"): 4}, {"one": 50}, 2)
        rows = [("opens", "one"), ("opens", "two", True, True)]
        self.assertEqual(check_changed_chain(day, changes, rows), ("two", 68, 2))
        rows = [("leaves", "leaves"), ("leaves", "two", True, False)]
        self.assertEqual(check_changed_chain(day, changes, rows), ("two", 15, 1))
        self.refused_changed(1, "leg", [("opens", "one"), ("leaves", "one", False, False)], changes, day)

    def test_many_chains(self):
        """Chains with drawn changes, and such with wrong rows among them."""
        rng = random.Random(311)
        seen = {}
        for day, parts, legs, lengths, most, changes in drawn(312, 150, STRANGE_PERSONS):
            chains = all_chains(parts)
            kinds = [(*leg, False, False) for leg in told_legs(parts)]
            for _ in range(25):
                rows = list(rng.choice(chains))
                for at in range(1, len(rows)):
                    can_be_long = told_legs(parts)[rows[at]][0] in lengths
                    rows[at] += (rng.random() < 0.6 and rows[at] in legs, rng.random() < 0.6 and can_be_long)
                if rng.random() < 0.6:
                    other = [some_row(rng, parts)] if rng.random() < 0.3 else rng.sample(kinds, min(1, len(kinds)))
                    if other and len(other[0]) == 4 and rng.random() < 0.7:
                        other = [other[0][:2] + (rng.choice([True, False, 0]), rng.choice([True, False, 1]))]
                    at = rng.randint(0, len(rows))
                    rows[at:at + rng.randint(0, 1)] = rng.choice([other, other, []])
                answer = self.verdict(lambda: check_changed_chain(day, changes, rows))
                self.assertEqual(answer, read_chain(parts, rows, legs, lengths, most), rows)
                reason = answer[2] if answer[0] == "bad" else "taken"
                seen[reason] = seen.get(reason, 0) + 1
                if reason == "taken":
                    self.reached(day, changes, rows, answer)
        reasons = ("start", "leg", "link", "change", "end", "most", "taken")
        self.assertTrue(all(seen[reason] > 10 for reason in reasons), seen)

    def reached(self, day, changes, rows, answer):
        """A changed day with just these changes has no earlier earliest start."""
        name, minute, count = answer
        chosen = [row[:2] for row in rows[1:] if row[2]]
        chosen += [before[1] for before, row in zip(rows, rows[1:]) if row[3]]
        self.assertEqual(len(set(chosen)), count)
        self.assertGreaterEqual(earliest(changed(day, changes, chosen))[name], minute)

    def test_nothing_is_modified(self):
        day, changes, rows = example(), example_changes(), [("leaves", "bob"), ("bob", "both", True, False)]
        check_changed_chain(day, changes, rows)
        self.assertEqual(rows, [("leaves", "bob"), ("bob", "both", True, False)])
        self.assertEqual((day, vars(changes)), (example(), vars(example_changes())))


class Point31Worst(ChainsCase):
    def test_example(self):
        rows = worst_chain(example(), example_changes(), "last")
        self.assertEqual(rows, [("leaves", "bob"), ("bob", "both", True, False), ("ann", "last", False, True)])
        self.assertEqual(worst_chain(example(), example_changes(), "first"), [("opens", "first")])

    def test_many_days(self):
        long = 0
        for day, parts, legs, lengths, most, changes in drawn(315, 250, STRANGE_PERSONS):
            table = worst(day, changes)
            for name in table:
                rows = worst_chain(day, changes, name)
                shown = check_changed_chain(day, changes, rows)
                self.assertEqual(shown[:2], (name, table[name][-1]))
                self.assertLessEqual(shown[2], most)
                self.assertEqual(read_chain(parts, rows, legs, lengths, most), shown)
                self.assertEqual({row.__class__ for row in rows}, {tuple})
                long += shown[2] > 1
        self.assertTrue(long > 30, long)

    def test_strange_names(self):
        for wrong in NO_NAMES + ["none", "ann", "opens"]:
            with self.assertRaises(BadName) as held:
                worst_chain(example(), example_changes(), wrong)
            self.assertEqual(held.exception.name, wrong)

    def test_returned_lists_are_new(self):
        day, changes = example(), example_changes()
        worst_chain(day, changes, "last").clear()
        self.assertEqual(len(worst_chain(day, changes, "last")), 3)
        self.assertEqual((day, vars(changes)), (example(), vars(example_changes())))


if __name__ == "__main__":
    unittest.main()

"""Points 33 to 36: one person who is told late to which place to go."""

import itertools
import random
import unittest

from laterways.errors import BadPaper
from laterways.rising import Rising
from laterways.slots import by_slots
from laterways.told import Told, check_plan, plan_table
from laterways.ways import Ways
from models import Game, plan_fault, some_rows
from test_day import NO_INTEGERS
from test_ways import NO_NAMES, WaysCase

UNTIL = 130
PLACES = ("c", "a", "b")


def ways_of(roads, places=PLACES):
    ways = Ways(*places)
    for pair, road in roads.items():
        ways[pair] = road
    return ways


def some_option(rng):
    opens = rng.randint(0, 40)
    return (rng.choice(PLACES), opens, opens + rng.randint(0, 45), rng.randint(0, 9))


def some_stages(rng, most=3):
    stages = []
    begin = 0
    for _ in range(rng.randint(0, most)):
        options = [some_option(rng) for _ in range(rng.choice([1, 1, 2, 2, 3]))]
        options = [(place, opens + begin, latest + begin, length) for place, opens, latest, length in options]
        stages.append((rng.randint(0, 30) + begin, options))
        begin += rng.choice([0, 10, 20])
    return stages


def some_plans(seed, many):
    """Plans with the games that they are compared with."""
    rng = random.Random(seed)
    found = []
    for _ in range(many):
        roads = {}
        for pair in itertools.permutations(PLACES, 2):
            kind = rng.random()
            if kind < 0.4:
                roads[pair] = Rising(some_rows(rng))
            elif kind < 0.8:
                roads[pair] = by_slots(rng.randint(1, 9), [rng.randint(0, 12) for _ in range(rng.randint(1, 5))])
        stages = some_stages(rng)
        found.append((Told(ways_of(roads), stages), Game(roads, PLACES, stages)))
    return found


def example_ways():
    """From home one can go to both shops; it is further from one shop to the other one than from home."""
    ways = Ways("home", "east", "west", "far")
    for shop, minutes in (("east", 10), ("west", 20)):
        ways["home", shop] = Rising.steady(minutes)
        ways[shop, "home"] = Rising.steady(minutes)
    return ways


def example_stages():
    return [(20, [("east", 0, 60, 5), ("west", 40, 45, 10)]), (0, [("home", 50, 90, 0)])]


def example():
    return Told(example_ways(), example_stages())


class Point33(WaysCase):
    def test_attributes(self):
        ways = example_ways()
        told = Told(ways, example_stages())
        self.assertEqual(told.ways, ways)
        self.assertIsNot(told.ways, ways)
        self.assertIs(told.ways.__class__, Ways)

    def test_number_of_stages_first(self):
        ways = example_ways()
        stage = example_stages()[1]
        for many in (7, 8):
            self.bad_number("stages", many, lambda: Told(ways, [stage] * many))
            self.bad_number("stages", many, lambda: Told(ways, [(True, [])] * many))
        self.assertEqual(Told(ways, [stage] * 6).deadline(6, "home"), None)
        self.assertEqual(Told(ways, []).deadline(0, "home"), None)

    def test_then_told(self):
        ways, good = example_ways(), example_stages()
        for wrong in [-1, 2881] + NO_INTEGERS:
            self.bad_number("told", wrong, lambda: Told(ways, [(wrong, [])]))
            self.bad_number("told", wrong, lambda: Told(ways, good + [(wrong, [("none", 1, 2, 3)] * 7), (-5, [])]))
        for told in (0, 2880):
            Told(ways, [(told, good[0][1])])

    def test_then_the_number_of_options(self):
        ways, good = example_ways(), example_stages()
        for many in (0, 7, 8):
            self.bad_number("options", many, lambda: Told(ways, [(0, [("none", -1, -1, -1)] * many)]))
            self.bad_number("options", many, lambda: Told(ways, good + [(0, good[1][1] * many), (-1, [])]))
        Told(ways, [(0, good[1][1] * 6)])

    def test_then_row_by_row(self):
        ways = example_ways()
        good = ("east", 0, 60, 5)
        def refused(call, row):
            call(lambda: Told(ways, [(0, [row])]))
            call(lambda: Told(ways, [(0, [good, row, ("none", -1, -1, -1)]), (-1, [])]))
        for wrong in NO_NAMES + ["none", "zz"]:
            refused(lambda call: self.bad_name(wrong, call), (wrong, -1, -1, -1))
        for wrong in [-1, 2881] + NO_INTEGERS:
            refused(lambda call: self.bad_number("opens", wrong, call), ("east", wrong, -1, -1))
        for wrong in [-1, 4, 2881] + NO_INTEGERS:
            refused(lambda call: self.bad_number("latest", wrong, call), ("east", 5, wrong, -1))
        for wrong in [-1, 601] + NO_INTEGERS:
            refused(lambda call: self.bad_number("length", wrong, call), ("east", 5, 60, wrong))
        Told(ways, [(0, [("east", 0, 0, 0), ("west", 2880, 2880, 600), ("east", 7, 7, 1)])])

    def test_stage_by_stage(self):
        ways = example_ways()
        first = (0, [("none", 0, 60, 5)])
        self.bad_name("none", lambda: Told(ways, [first, (-1, [])]))
        self.bad_number("told", -1, lambda: Told(ways, [(-1, []), first]))
        self.bad_number("options", 0, lambda: Told(ways, [(0, []), (-1, [])]))

    def test_two_options_of_one_place(self):
        told = Told(example_ways(), [(30, [("east", 0, 60, 5), ("east", 40, 45, 10), ("east", 0, 60, 5)])])
        self.assertEqual(told.deadline(0, "home"), 35)

    def test_tuples_for_lists(self):
        stages = tuple([(told, tuple(options)) for told, options in example_stages()])
        self.assertEqual(plan_table(Told(example_ways(), stages)), plan_table(example()))

    def test_what_was_passed_may_change(self):
        ways, stages = example_ways(), example_stages()
        told = Told(ways, stages)
        ways["home", "east"] = Rising.steady(500)
        ways["home", "far"] = Rising.steady(0)
        stages[0][1].append(("far", 0, 0, 0))
        stages[1][1].clear()
        stages.pop()
        self.assertEqual(plan_table(told), plan_table(example()))
        self.assertEqual(told.ways, example_ways())
        self.assertIsNone(told.wait_at(0, "far", 0))

    def test_nothing_is_modified(self):
        ways, stages = example_ways(), example_stages()
        plan_table(Told(ways, stages))
        self.assertEqual((ways, stages), (example_ways(), example_stages()))

    def test_ways_told_anew_change_no_answer(self):
        """The ways are read when the object is made."""
        told = example()
        told.ways["home", "east"] = Rising.steady(500)
        self.assertEqual(plan_table(told), plan_table(example()))


class Point34(WaysCase):
    def test_example(self):
        """One waits at home, or in the west: from there both shops are reached in time."""
        told = example()
        self.assertEqual([told.deadline(0, place) for place in told.ways.places], [25, 15, 30, None])
        self.assertEqual([told.deadline(1, place) for place in told.ways.places], [90, 80, 70, None])
        self.assertEqual([told.deadline(2, place) for place in told.ways.places], [None] * 4)
        self.assertIs(told.keeps(0, "home", 25), True)
        self.assertIs(told.keeps(0, "home", 26), False)
        self.assertIs(told.keeps(0, "far", 0), False)

    def test_told_late(self):
        """Told after the bound of each place nothing can be kept."""
        stages = example_stages()
        for minute, last in ((0, 25), (25, 25), (26, 10), (30, 10), (31, None), (2880, None)):
            told = Told(example_ways(), [(minute, stages[0][1]), stages[1]])
            self.assertEqual(told.deadline(0, "home"), last)

    def test_one_option_is_known_at_once(self):
        told = Told(example_ways(), [(2880, [("west", 40, 45, 10)])])
        self.assertEqual([told.deadline(0, place) for place in told.ways.places], [25, 15, 45, None])

    def test_behind_the_last_stage(self):
        for told, stage in ((example(), 2), (Told(example_ways(), []), 0)):
            for place in told.ways.places:
                self.assertIsNone(told.deadline(stage, place))
                for minute in (0, 5, 2881, 10 ** 30):
                    self.assertIs(told.keeps(stage, place, minute), True)

    def test_no_way_to_an_option(self):
        ways = Ways("a", "b")
        ways["a", "b"] = Rising.steady(5)
        told = Told(ways, [(10, [("a", 0, 60, 5), ("b", 0, 60, 5)])])
        self.assertEqual([told.deadline(0, place) for place in "ab"], [55, None])
        alone = Told(ways, [(10, [("a", 0, 60, 5)])])
        self.assertEqual([alone.deadline(0, place) for place in "ab"], [60, None])

    def test_the_end_of_an_option_counts(self):
        told = Told(Ways("a"), [(0, [("a", 10, 60, 30)]), (0, [("a", 0, 50, 600)])])
        self.assertEqual(told.deadline(0, "a"), 20)
        told = Told(Ways("a"), [(0, [("a", 21, 60, 30)]), (0, [("a", 0, 50, 600)])])
        self.assertIsNone(told.deadline(0, "a"))

    def test_against_a_game(self):
        seen = {True: 0, False: 0}
        for told, game in some_plans(341, 120):
            for stage in range(len(game.stages) + 1):
                for place in PLACES:
                    last = game.deadline(stage, place, UNTIL)
                    if stage == len(game.stages):
                        self.assertIsNone(told.deadline(stage, place))
                        self.assertIs(told.keeps(stage, place, UNTIL), True)
                        continue
                    self.assertEqual(told.deadline(stage, place), last)
                    for minute in (0, 1, 7, 20, 33, last or 0, (last or 0) + 1, UNTIL):
                        self.assertIs(told.keeps(stage, place, minute), last is not None and minute <= last)
                        self.assertIs(told.keeps(stage, place, minute), game.keeps(stage, place, minute))
                    seen[last is None] += 1
        self.assertTrue(seen[True] > 50 and seen[False] > 50, seen)

    def test_errors(self):
        told = example()
        for call in (lambda stage: told.deadline(stage, ""), lambda stage: told.keeps(stage, "", -1)):
            for wrong in [-1, 3] + NO_INTEGERS:
                self.bad_number("stage", wrong, lambda: call(wrong))
        for stage in range(3):
            for wrong in NO_NAMES + ["zz"]:
                self.bad_name(wrong, lambda: told.deadline(stage, wrong))
                self.bad_name(wrong, lambda: told.keeps(stage, wrong, -1))
            for wrong in [-1] + NO_INTEGERS:
                self.bad_number("minute", wrong, lambda: told.keeps(stage, "home", wrong))
                self.bad_number("minute", wrong, lambda: told.keeps(stage, "far", wrong))
        self.bad_number("stage", 1, lambda: Told(example_ways(), []).deadline(1, "home"))


class Point35(WaysCase):
    def test_example(self):
        told = example()
        self.assertEqual(told.wait_at(0, "home", 0), "home")
        self.assertEqual(told.wait_at(0, "home", 25), "home")
        self.assertIsNone(told.wait_at(0, "home", 26))
        self.assertEqual(told.wait_at(0, "east", 0), "home")
        self.assertEqual(told.wait_at(0, "west", 5), "home")
        self.assertEqual(told.wait_at(0, "west", 6), "west")
        self.assertEqual(told.latest_telling(0, "home", 10), 30)
        self.assertEqual(told.latest_telling(0, "home", 11), 25)
        self.assertEqual(told.latest_telling(0, "home", 25), 25)
        self.assertIsNone(told.latest_telling(0, "home", 26))

    def test_the_first_place(self):
        """Two places from which all is kept: the order of the places decides."""
        for places in itertools.permutations("abc"):
            ways = Ways(*places)
            for pair in itertools.permutations("abc", 2):
                ways[pair] = Rising.steady(4)
            told = Told(ways, [(10, [("a", 0, 30, 0), ("b", 0, 30, 0)])])
            self.assertEqual(told.wait_at(0, "c", 0), places[0])
            self.assertEqual(told.wait_at(0, "c", 22), places[0])
            self.assertEqual(told.wait_at(0, "c", 24), "c")
            self.assertEqual(told.wait_at(0, "a", 26), "a")

    def test_one_option(self):
        ways = Ways("b", "a", "c")
        for pair in itertools.permutations("abc", 2):
            ways[pair] = Rising.steady(4)
        told = Told(ways, [(2880, [("a", 0, 30, 0)])])
        self.assertEqual(told.wait_at(0, "c", 0), "b")
        self.assertEqual(told.wait_at(0, "c", 22), "b")
        self.assertEqual(told.wait_at(0, "c", 26), "a")
        self.assertIsNone(told.wait_at(0, "c", 27))
        self.assertEqual(told.latest_telling(0, "c", 26), 2880)
        self.assertIsNone(told.latest_telling(0, "c", 27))

    def test_at_most_2880(self):
        told = Told(Ways("a"), [(7, [("a", 0, 2880, 600), ("a", 0, 2880, 600)])])
        self.assertEqual(told.latest_telling(0, "a", 0), 2880)
        self.assertEqual(told.latest_telling(0, "a", 2880), 2880)
        self.assertIsNone(told.latest_telling(0, "a", 2881))

    def test_begun_after_the_telling(self):
        told = Told(Ways("a"), [(7, [("a", 0, 50, 5), ("a", 0, 40, 5)])])
        self.assertEqual((told.wait_at(0, "a", 39), told.latest_telling(0, "a", 39)), ("a", 40))

    def test_against_a_game(self):
        seen = {"none": 0, "some": 0, "moved": 0, "told later": 0}
        minutes = list(range(UNTIL)) + [2880]
        for told, game in some_plans(351, 60):
            for stage in range(len(game.stages)):
                for place in PLACES:
                    last = told.deadline(stage, place)
                    for minute in {0, 11, last or 0, max(0, (last or 0) - 3), (last or 0) + 1, UNTIL}:
                        waits = game.waits(stage, place, minute)
                        self.assertEqual(told.wait_at(stage, place, minute), waits[0] if waits else None)
                        latest = game.latest_telling(stage, place, minute, minutes)
                        self.assertEqual(told.latest_telling(stage, place, minute), latest)
                        seen["some" if waits else "none"] += 1
                        seen["moved"] += waits != [] and place not in waits
                        seen["told later"] += waits == [] and latest is not None
        self.assertTrue(seen["none"] > 50 and seen["some"] > 50 and seen["moved"] > 3, seen)

    def test_the_place_of_a_single_option_is_among_them(self):
        many = 0
        for told, game in some_plans(353, 60):
            for stage, (_, options) in enumerate(game.stages):
                for place in PLACES:
                    last = told.deadline(stage, place)
                    if len(options) == 1 and last is not None:
                        self.assertIn(options[0][0], game.waits(stage, place, last))
                        many += 1
        self.assertTrue(many > 20, many)

    def test_errors(self):
        told = example()
        for call in (told.wait_at, told.latest_telling):
            for wrong in [-1, 2, 3] + NO_INTEGERS:
                self.bad_number("stage", wrong, lambda: call(wrong, "", -1))
            for stage in range(2):
                for wrong in NO_NAMES + ["zz"]:
                    self.bad_name(wrong, lambda: call(stage, wrong, -1))
                for wrong in [-1] + NO_INTEGERS:
                    self.bad_number("minute", wrong, lambda: call(stage, "far", wrong))
        empty = Told(example_ways(), [])
        self.bad_number("stage", 0, lambda: empty.wait_at(0, "home", 0))
        self.bad_number("stage", 0, lambda: empty.latest_telling(0, "home", 0))


class Point36(WaysCase):
    def refused(self, row, reason, rows, told=None):
        given = example() if told is None else told
        for passed in (rows, tuple(rows)):
            with self.assertRaises(BadPaper) as held:
                check_plan(given, passed)
            self.assertEqual((held.exception.row, held.exception.reason), (row, reason))

    def test_example(self):
        rows = [
            (0, "home", "home", 25), (0, "east", "home", 15), (0, "west", "west", 30),
            (1, "home", "home", 90), (1, "east", "home", 80), (1, "west", "home", 70),
        ]
        self.assertEqual(plan_table(example()), rows)
        self.assertEqual({row.__class__ for row in plan_table(example())}, {tuple})
        self.assertIs(check_plan(example(), rows), True)
        self.assertIs(check_plan(example(), tuple(rows[::-1])), True)
        self.assertIs(check_plan(example(), rows[3:]), True)
        self.assertIs(check_plan(example(), []), True)
        self.assertIs(check_plan(example(), [rows[0], (1, "east", "east", 80), (1, "west", "west", 60)]), True)

    def test_stage(self):
        good = plan_table(example())
        for wrong in [-1, 2, 3] + NO_INTEGERS:
            self.refused(0, "stage", [(wrong, "zz", "zz", -1)])
            self.refused(1, "stage", good[:1] + [(wrong, "home", "home", 0)] + good[1:])
            self.refused(6, "stage", good + [(wrong, None, None, None)])
        self.refused(0, "stage", [(0, "a", "a", 0)], Told(Ways("a"), []))

    def test_place(self):
        good = plan_table(example())
        for wrong in ["zz", "", None, True, False, 0]:
            self.refused(0, "place", [(0, wrong, "home", -1)])
            self.refused(0, "place", [(0, "home", wrong, -1)])
            self.refused(6, "place", good + [(1, wrong, wrong, None)])
        self.refused(0, "place", [(1, "home", "far", 0)])
        self.refused(0, "place", [(1, "far", "home", None)])

    def test_minute(self):
        good = plan_table(example())
        for wrong in [-1] + NO_INTEGERS:
            self.refused(0, "minute", [(0, "home", "home", wrong)])
            self.refused(5, "minute", good[:5] + [(1, "far", "far", wrong)] + good[5:])

    def test_late(self):
        good = plan_table(example())
        self.refused(0, "late", [(0, "home", "home", 26)] + good)
        self.refused(0, "late", [(0, "home", "east", 0)] + good)
        self.refused(6, "late", good + [(1, "home", "east", 71)])
        self.refused(0, "late", [(0, "far", "far", 0)] + good)
        self.refused(0, "late", [(1, "far", "far", 10 ** 30)])
        self.assertIs(check_plan(example(), good + [(1, "home", "east", 70)]), True)

    def test_next(self):
        """Behind the first stage one is in the east at 40 or in the west at 55."""
        told = example()
        row = (0, "home", "home", 25)
        east, west = (1, "east", "home", 45), (1, "west", "home", 55)
        self.assertIs(check_plan(told, [row, east, west]), True)
        self.assertIs(check_plan(told, [west, east, row]), True)
        self.refused(0, "next", [row])
        self.refused(0, "next", [row, east])
        self.refused(1, "next", [west, row])
        self.assertIs(check_plan(told, [row, (1, "east", "home", 40), west]), True)
        self.refused(0, "next", [row, (1, "east", "home", 39), west])
        self.refused(0, "next", [row, east, (1, "west", "home", 54), (1, "west", "east", 2)])
        self.refused(0, "next", [row, (0, "east", "home", 15), (0, "west", "home", 5), west])
        for wrong in (True, False, None, "1"):
            self.refused(0, "next", [row, (wrong, "east", "home", 45), west])
            self.refused(0, "next", [row, (1, wrong, "home", 45), west])
            self.refused(0, "next", [row, (1, "east", "home", wrong), west])
        self.refused(1, "place", [row, (1, "east", None, 45), west])
        self.refused(1, "late", [row, (1, "east", "home", 1000), west])

    def test_true_is_no_minute_of_the_next_stage(self):
        """Behind the first stage it is 0, so that True could pass for a later minute."""
        told = Told(Ways("a"), [(0, [("a", 0, 5, 0)]), (0, [("a", 0, 9, 0)])])
        first = (0, "a", "a", 0)
        self.assertIs(check_plan(told, [first, (1, "a", "a", 0)]), True)
        self.refused(0, "next", [first, (1, "a", "a", True)], told)
        self.refused(0, "next", [first, (True, "a", "a", 1)], told)
        self.refused(1, "stage", [(1, "a", "a", 1), (False, "a", "a", 0)], told)

    def test_many_tables(self):
        rng = random.Random(361)
        seen = {}
        for told, game in some_plans(362, 150):
            table = plan_table(told)
            self.assertIs(check_plan(told, table), True)
            right = []
            for stage in range(len(game.stages)):
                for place in PLACES:
                    last = told.deadline(stage, place)
                    if last is not None:
                        right.append((stage, place, told.wait_at(stage, place, last), last))
            self.assertEqual(table, right)
            for _ in range(12):
                rows = list(table)
                for _ in range(rng.randint(1, 3)):
                    at = rng.randint(0, len(rows))
                    other = [
                        rng.choice([0, 1, 2, 3, True, False, None]), rng.choice("abcabc") if rng.random() < 0.9 else None,
                        rng.choice("abcabc") if rng.random() < 0.9 else True, rng.choice([0, 5, 20, 40, -1, True, None]),
                    ]
                    if rows and rng.random() < 0.7:
                        other = [old if rng.random() < 0.8 else new for old, new in zip(rng.choice(rows), other)]
                        if other[3].__class__ is int:
                            other[3] = max(0, other[3] + rng.choice([0, 0, -1, 1, -20]))
                    rows[at:at + rng.randint(0, 1)] = rng.choice([[tuple(other)], [tuple(other)], []])
                wrong = plan_fault(game, rows)
                if wrong is None:
                    self.assertIs(check_plan(told, rows), True)
                    self.follows(game, told, rows)
                else:
                    self.refused(*wrong, rows, told)
                reason = wrong[1] if wrong else "taken"
                seen[reason] = seen.get(reason, 0) + 1
        self.assertTrue(all(seen[x] > 10 for x in ("stage", "place", "minute", "late", "next", "taken")), seen)

    def follows(self, game, told, rows):
        """One who follows the rows of a table that was taken keeps every option."""
        for stage, place, wait, minute in rows:
            self.assertTrue(told.keeps(stage, place, minute))
            self.assertTrue(game.keeps(stage, place, minute))
            begins = [(stage, place, minute)]
            while begins:
                stage, place, minute = begins.pop()
                if stage < len(game.stages):
                    waits = [row[2] for row in rows if row[:2] == (stage, place) and row[3] >= minute]
                    self.assertNotEqual(waits, [])
                    ends = game.ends(stage, place, minute, waits[-1])
                    self.assertIsNotNone(ends)
                    begins += [(stage + 1, there, end) for there, end in ends]

    def test_rows_are_new_and_stay(self):
        told = example()
        plan_table(told).clear()
        self.assertEqual(len(plan_table(told)), 6)
        rows = plan_table(told)
        check_plan(told, rows)
        self.assertEqual(rows, plan_table(told))

    def test_no_stages(self):
        self.assertEqual(plan_table(Told(Ways("a"), [])), [])
        self.assertIs(check_plan(Told(Ways("a"), []), []), True)


if __name__ == "__main__":
    unittest.main()

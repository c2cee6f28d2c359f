"""Point 37: errands that one person does in any order."""

import itertools
import random
import unittest

from laterways.errands import best_end, latest_begin
from laterways.rising import Rising
from laterways.slots import by_slots
from laterways.ways import Ways
from models import Errands, some_rows
from test_day import NO_INTEGERS
from test_told import ways_of
from test_ways import NO_NAMES, WaysCase

PLACES = ("c", "a", "b")


def some_roads(rng, places=PLACES, share=0.8):
    roads = {}
    for pair in itertools.permutations(places, 2):
        kind = rng.random()
        if kind < share / 2:
            roads[pair] = Rising(some_rows(rng))
        elif kind < share:
            roads[pair] = by_slots(rng.randint(1, 9), [rng.randint(0, 12) for _ in range(rng.randint(1, 5))])
    return roads


def some_errand(rng, places=PLACES, wide=60):
    opens = rng.randint(0, 30)
    return (rng.choice(places), opens, opens + rng.randint(0, wide), rng.randint(0, 9))


def some_cases(seed, many, most=4):
    """Told ways, places and errands."""
    rng = random.Random(seed)
    found = []
    for _ in range(many):
        places = PLACES[:rng.choice([1, 2, 3, 3])]
        roads = some_roads(rng, places, rng.choice([0.5, 0.8, 1]))
        errands = [some_errand(rng, places, rng.choice([15, 60])) for _ in range(rng.randint(0, most))]
        found.append((roads, places, errands))
    return found


def row_of_places():
    """From a to b to c to d, and from d back to a; no told way leads from e."""
    ways = Ways(*"abcde")
    for start, end in ("ab", "bc", "cd", "da"):
        ways[start, end] = Rising.steady(10)
    return ways


def wide(place, length=5):
    """An errand that can be done at any time."""
    return (place, 0, 2880, length)


class BestEnd(WaysCase):
    def test_example(self):
        ways = Ways("home", "shop", "bank")
        ways["home", "shop"] = ways["shop", "home"] = Rising.steady(10)
        ways["home", "bank"] = ways["bank", "home"] = Rising.steady(5)
        errands = [("shop", 0, 100, 20), ("bank", 30, 40, 10)]
        self.assertEqual(best_end(ways, "home", 0, errands), (75, (1, 0)))
        self.assertEqual(best_end(ways, "home", 0, errands[::-1]), (75, (0, 1)))
        self.assertEqual(best_end(ways, "home", 35, errands), (85, (1, 0)))
        self.assertIsNone(best_end(ways, "home", 36, errands))
        self.assertEqual(best_end(ways, "shop", 0, errands), (45, (0, 1)))
        self.assertEqual(best_end(ways, "home", 0, errands[:1]), (30, (0,)))

    def test_against_all_orders(self):
        seen = {"none": 0, "first": 0, "other": 0}
        for roads, places, errands in some_cases(371, 250):
            ways = ways_of(roads, places)
            model = Errands(roads, errands)
            for place in places:
                for minute in (0, 1, 7, 16, 33, 60):
                    right = model.best(place, minute)
                    found = best_end(ways, place, minute, errands)
                    self.assertEqual(found, right)
                    if right is None:
                        seen["none"] += 1
                    else:
                        self.assertIs(found.__class__, tuple)
                        self.assertIs(found[1].__class__, tuple)
                        seen["first" if right[1] == tuple(range(len(errands))) else "other"] += 1
        self.assertTrue(all(many > 300 for many in seen.values()), seen)

    def test_against_all_orders_of_five_and_six(self):
        rng = random.Random(372)
        kept = 0
        for _ in range(25):
            roads = some_roads(rng, share=1)
            errands = [some_errand(rng, wide=90) for _ in range(rng.choice([5, 6]))]
            right = Errands(roads, errands).best("a", 3)
            self.assertEqual(best_end(ways_of(roads), "a", 3, errands), right)
            kept += right is not None
        self.assertTrue(kept > 8, kept)

    def test_the_first_order_of_several(self):
        """Errands alike, and errands that leave a wait which any order fills."""
        ways = Ways("a", "b")
        ways["a", "b"] = ways["b", "a"] = Rising.steady(0)
        self.assertEqual(best_end(ways, "a", 4, [wide("a")] * 6), (34, (0, 1, 2, 3, 4, 5)))
        errands = [wide("a", 3), wide("b", 4), ("a", 50, 60, 1), wide("b", 5)]
        self.assertEqual(best_end(ways, "a", 0, errands), (51, (0, 1, 3, 2)))
        self.assertEqual(best_end(ways, "a", 0, errands[::-1]), (51, (0, 2, 3, 1)))

    def test_many_orders_with_one_end(self):
        rng = random.Random(373)
        orders = 0
        for _ in range(60):
            roads = {pair: Rising.steady(rng.choice([0, 0, 5])) for pair in itertools.permutations(PLACES, 2)}
            errands = []
            for _ in range(5):
                opens, latest = rng.choice([0, 0, 20, 40]), rng.choice([40, 80, 110])
                errands.append((rng.choice(PLACES), opens, latest, rng.choice([0, 5])))
            model = Errands(roads, errands)
            right = model.best("a", 0)
            self.assertEqual(best_end(ways_of(roads), "a", 0, errands), right)
            if right is not None:
                ends = [model.end("a", 0, order) for order in itertools.permutations(range(5))]
                orders += ends.count(right[0]) > 2
        self.assertTrue(orders > 20, orders)

    def test_places_that_are_reached_by_other_places_only(self):
        ways = row_of_places()
        self.assertEqual(best_end(ways, "a", 0, [wide("c"), wide("b")]), (30, (1, 0)))
        self.assertEqual(best_end(ways, "a", 0, [wide("d")]), (35, (0,)))
        self.assertEqual(best_end(ways, "b", 0, [wide("b"), wide("a")]), (40, (0, 1)))

    def test_places_to_which_no_way_leads(self):
        ways = row_of_places()
        self.assertIsNone(best_end(ways, "a", 0, [wide("e")]))
        self.assertIsNone(best_end(ways, "a", 0, [wide("b"), wide("e")]))
        self.assertIsNone(best_end(ways, "e", 0, [wide("e"), wide("a")]))
        self.assertEqual(best_end(ways, "e", 7, [wide("e"), wide("e")]), (17, (0, 1)))
        self.assertEqual(best_end(ways, "e", 7, []), (7, ()))

    def test_opens_and_latest(self):
        ways = row_of_places()
        self.assertEqual(best_end(ways, "a", 0, [("b", 10, 10, 0)]), (10, (0,)))
        self.assertEqual(best_end(ways, "a", 0, [("b", 25, 25, 600)]), (625, (0,)))
        self.assertIsNone(best_end(ways, "a", 1, [("b", 10, 10, 0)]))
        self.assertIsNone(best_end(ways, "a", 0, [("b", 0, 9, 0)]))
        self.assertEqual(best_end(ways, "a", 2880, [("a", 0, 2880, 600)]), (3480, (0,)))
        self.assertIsNone(best_end(ways, "a", 2881, [("a", 0, 2880, 600)]))
        self.assertIsNone(best_end(ways, "a", 10 ** 30, [wide("a")]))

    def test_no_errands(self):
        for minute in (0, 5, 2881, 10 ** 30):
            self.assertEqual(best_end(row_of_places(), "a", minute, []), (minute, ()))
            self.assertEqual(best_end(row_of_places(), "a", minute, ()), (minute, ()))

    def test_waiting_for_a_shorter_way(self):
        """Who begins earlier never ends later, also where the way gets shorter."""
        ways = Ways("a", "b")
        ways["a", "b"] = by_slots(60, [50, 5])
        errands = [("b", 0, 70, 10), ("a", 0, 70, 10)]
        self.assertEqual(best_end(ways, "a", 0, errands), (70, (1, 0)))
        self.assertEqual(best_end(ways, "a", 40, errands), (75, (1, 0)))


class EightErrands(WaysCase):
    def test_any_order(self):
        """Eight at one place, and eight at six places between which all ways are alike."""
        ways = Ways(*"abcdef")
        for pair in itertools.permutations("abcdef", 2):
            ways[pair] = Rising.steady(7)
        alike = [wide("c", 600)] * 8
        self.assertEqual(best_end(ways, "a", 0, [wide("c", 11)] * 8), (95, tuple(range(8))))
        self.assertEqual(latest_begin(ways, "a", [wide("c", 11)] * 8), 2880 - 77 - 7)
        self.assertIsNone(best_end(ways, "a", 0, alike))
        self.assertIsNone(latest_begin(ways, "a", alike))
        errands = [wide(place) for place in "abcdefab"]
        self.assertEqual(best_end(ways, "a", 0, errands), (75, (0, 6, 1, 7, 2, 3, 4, 5)))
        self.assertEqual(latest_begin(ways, "a", errands), 2880 - 70)

    def test_against_all_orders(self):
        rng = random.Random(374)
        roads = some_roads(rng, share=1)
        errands = [(place, opens, 200, length) for place, opens, _, length in [some_errand(rng) for _ in range(8)]]
        model = Errands(roads, errands)
        right = model.best("b", 5)
        self.assertIsNotNone(right)
        self.assertEqual(best_end(ways_of(roads), "b", 5, errands), right)
        last = latest_begin(ways_of(roads), "b", errands)
        self.assertIsNotNone(best_end(ways_of(roads), "b", last, errands))
        self.assertIsNone(best_end(ways_of(roads), "b", last + 1, errands))
        self.assertIsNotNone(model.best("b", last))
        self.assertIsNone(model.best("b", last + 1))

    def test_nine_are_too_many(self):
        ways = row_of_places()
        for many in (9, 10, 30):
            self.bad_number("errands", many, lambda: best_end(ways, "a", 0, [wide("a")] * many))
            self.bad_number("errands", many, lambda: latest_begin(ways, "a", (wide("a"),) * many))
        self.assertEqual(best_end(ways, "a", 0, [wide("a")] * 8)[0], 40)


class LatestBegin(WaysCase):
    def test_example(self):
        ways = Ways("home", "shop", "bank")
        ways["home", "shop"] = ways["shop", "home"] = Rising.steady(10)
        ways["home", "bank"] = ways["bank", "home"] = Rising.steady(5)
        errands = [("shop", 0, 100, 20), ("bank", 30, 40, 10)]
        self.assertEqual(latest_begin(ways, "home", errands), 35)
        self.assertEqual(latest_begin(ways, "bank", errands), 40)
        self.assertEqual(latest_begin(ways, "shop", errands), 25)
        self.assertEqual(latest_begin(ways, "home", errands[:1]), 90)

    def test_against_all_orders(self):
        seen = {True: 0, False: 0}
        for roads, places, errands in some_cases(375, 120, most=3):
            ways = ways_of(roads, places)
            model = Errands(roads, errands)
            for place in places:
                found = latest_begin(ways, place, errands)
                self.assertEqual(found, model.latest(place, 100))
                if errands:
                    seen[found is None] += 1
        self.assertTrue(seen[True] > 30 and seen[False] > 50, seen)

    def test_one_minute_later_no_order_does(self):
        rng = random.Random(376)
        many = 0
        for _ in range(40):
            roads = some_roads(rng, share=1)
            errands = [some_errand(rng, wide=120) for _ in range(rng.randint(4, 6))]
            ways = ways_of(roads)
            last = latest_begin(ways, "c", errands)
            if last is None:
                self.assertIsNone(best_end(ways, "c", 0, errands))
                continue
            many += 1
            self.assertIsNotNone(best_end(ways, "c", last, errands))
            self.assertIsNone(best_end(ways, "c", last + 1, errands))
        self.assertTrue(many > 15, many)

    def test_limits(self):
        ways = row_of_places()
        self.assertEqual(latest_begin(ways, "a", [("a", 0, 2880, 600)]), 2880)
        self.assertEqual(latest_begin(ways, "a", [("a", 0, 0, 0)]), 0)
        self.assertEqual(latest_begin(ways, "a", [("b", 0, 10, 0)]), 0)
        self.assertIsNone(latest_begin(ways, "a", [("b", 0, 9, 0)]))
        self.assertEqual(latest_begin(ways, "a", [("a", 2880, 2880, 600)] + [("a", 0, 2880, 0)] * 3), 2880)

    def test_no_errands_and_no_ways(self):
        ways = row_of_places()
        self.assertIsNone(latest_begin(ways, "a", []))
        self.assertIsNone(latest_begin(ways, "a", ()))
        self.assertIsNone(latest_begin(ways, "e", [wide("a")]))
        self.assertIsNone(latest_begin(ways, "a", [wide("b"), wide("e")]))
        self.assertEqual(latest_begin(ways, "e", [wide("e")]), 2880)


GOOD = ("a", 5, 50, 10)
WRONG_ERRANDS = [
    (("zz", -1, -1, -1), "name", "zz"),
    ((None, -1, -1, -1), "name", None),
    (("a", 2881, -1, -1), "opens", 2881),
    (("a", True, -1, -1), "opens", True),
    (("a", 5, 4, -1), "latest", 4),
    (("a", 5, 2881, -1), "latest", 2881),
    (("a", 5, None, -1), "latest", None),
    (("a", 5, 50, -1), "length", -1),
    (("a", 5, 50, 601), "length", 601),
    (("a", 5, 50, False), "length", False),
]


class Refused(WaysCase):
    def refused(self, what, value, call):
        if what == "name":
            self.bad_name(value, call)
        else:
            self.bad_number(what, value, call)

    def both(self, what, value, place, errands):
        """Each function refuses them; best_end at a right minute."""
        ways = row_of_places()
        for passed in (errands, tuple(errands)):
            self.refused(what, value, lambda: best_end(ways, place, 0, passed))
            self.refused(what, value, lambda: latest_begin(ways, place, passed))

    def test_the_place_first(self):
        for wrong in NO_NAMES + ["zz", "nowhere"]:
            for errands in ([], [GOOD], [GOOD] * 9, [("zz", -1, -1, -1)]):
                self.both("name", wrong, wrong, errands)
                self.bad_name(wrong, lambda: best_end(row_of_places(), wrong, -1, errands))

    def test_then_the_minute(self):
        ways = row_of_places()
        for wrong in [-1] + NO_INTEGERS:
            for errands in ([], [GOOD], [GOOD] * 9, [("zz", -1, -1, -1)]):
                self.bad_number("minute", wrong, lambda: best_end(ways, "a", wrong, errands))

    def test_then_the_number_of_errands(self):
        self.both("errands", 9, "a", [GOOD] * 9)
        self.both("errands", 9, "a", [("zz", -1, -1, -1)] * 9)

    def test_then_errand_by_errand(self):
        for errand, what, value in WRONG_ERRANDS:
            self.both(what, value, "a", [errand])
            self.both(what, value, "a", [GOOD, errand, GOOD])
            self.both(what, value, "a", [GOOD] * 7 + [errand])
            for other, _, _ in WRONG_ERRANDS:
                self.both(what, value, "a", [errand, other])

    def test_each_kind_of_wrong_number(self):
        for wrong in [-1, 2881] + NO_INTEGERS:
            self.both("opens", wrong, "a", [("a", wrong, 50, 10)])
        for wrong in [-1, 4, 2881] + NO_INTEGERS:
            self.both("latest", wrong, "a", [("a", 5, wrong, 10)])
        for wrong in [-1, 601] + NO_INTEGERS:
            self.both("length", wrong, "a", [("a", 5, 50, wrong)])
        for wrong in NO_NAMES + ["zz"]:
            self.both("name", wrong, "a", [(wrong, 5, 50, 10)])


class Unchanged(WaysCase):
    def test_what_was_passed_stays(self):
        ways = row_of_places()
        errands = [wide("c"), wide("b"), ("a", 0, 2880, 7)]
        kept = list(errands)
        before = ways.copy()
        first = (best_end(ways, "a", 3, errands), latest_begin(ways, "a", errands))
        self.assertEqual((best_end(ways, "a", 3, tuple(errands)), latest_begin(ways, "a", tuple(errands))), first)
        self.assertEqual((best_end(ways, "a", 3, errands), latest_begin(ways, "a", errands)), first)
        self.assertEqual(errands, kept)
        self.assertEqual(ways, before)

    def test_ways_are_read_anew(self):
        ways = Ways("a", "b")
        self.assertIsNone(best_end(ways, "a", 0, [wide("b")]))
        ways["a", "b"] = Rising.steady(9)
        self.assertEqual(best_end(ways, "a", 0, [wide("b")]), (14, (0,)))
        self.assertEqual(latest_begin(ways, "a", [wide("b")]), 2871)


if __name__ == "__main__":
    unittest.main()

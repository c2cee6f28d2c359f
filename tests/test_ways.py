"""Points 11 to 13: places and ways."""

import itertools
import random
import unittest

from laterways.errors import BadName, BadNumber, BadWay
from laterways.rising import Rising
from laterways.slots import by_slots
from laterways.ways import Ways
from models import some_rows, walk_arrival

NO_NAMES = [None, True, 1, "", "A", "abcdefghi", "a b", b"a", ("a",)]


def some_ways(rng, places, share):
    """Ways between the places, and a dictionary of what was told."""
    ways = Ways(*places)
    roads = {}
    for pair in itertools.permutations(places, 2):
        if rng.random() < share:
            roads[pair] = Rising(some_rows(rng))
            ways[pair] = roads[pair]
    return ways, roads


class WaysCase(unittest.TestCase):
    def bad_name(self, name, call):
        with self.assertRaises(BadName) as held:
            call()
        self.assertEqual(held.exception.name, name)

    def bad_number(self, what, value, call):
        with self.assertRaises(BadNumber) as held:
            call()
        self.assertEqual(held.exception.what, what)
        self.assertIs(held.exception.value.__class__, value.__class__)
        self.assertEqual(held.exception.value, value)

    def bad_way(self, start, end, call):
        with self.assertRaises(BadWay) as held:
            call()
        self.assertEqual((held.exception.start, held.exception.end), (start, end))


def tell(ways, start, end, way):
    ways[start, end] = way


class Point11(WaysCase):
    def test_places_in_order(self):
        self.assertEqual(Ways("b", "a", "c").places, ("b", "a", "c"))
        self.assertEqual(Ways("x").places, ("x",))
        self.assertEqual(Ways(*"fedcba").places, tuple("fedcba"))

    def test_number_of_places(self):
        self.bad_number("places", 0, lambda: Ways())
        self.bad_number("places", 7, lambda: Ways(*"abcdefg"))
        self.bad_number("places", 8, lambda: Ways(*"abcdefgh"))
        self.bad_number("places", 7, lambda: Ways("a", "a", "", None, 1, 2, 3))

    def test_wrong_names_and_names_given_before(self):
        for wrong in NO_NAMES:
            self.bad_name(wrong, lambda: Ways(wrong))
            self.bad_name(wrong, lambda: Ways("a", wrong, "b"))
            self.bad_name(wrong, lambda: Ways("a", "b", wrong))
        self.bad_name("a", lambda: Ways("a", "a"))
        self.bad_name("a", lambda: Ways("a", "b", "a"))
        self.bad_name("b", lambda: Ways("a", "b", "b", "a", ""))
        self.bad_name("", lambda: Ways("a", "", "a"))
        self.bad_name("a", lambda: Ways("a", "a", ""))

    def test_told(self):
        ways = Ways("a", "b", "c")
        f, g = Rising.steady(5), Rising.steady(9)
        ways["a", "b"] = f
        self.assertEqual(ways.told("a", "b"), f)
        self.bad_way("b", "a", lambda: ways.told("b", "a"))
        self.bad_way("b", "c", lambda: ways.told("b", "c"))
        ways["a", "b"] = g
        self.assertEqual(ways.told("a", "b"), g)
        self.assertEqual(ways["a", "b"], g)

    def test_told_is_not_a_way_by_other_places(self):
        ways = Ways("a", "b", "c")
        ways["a", "b"] = Rising.steady(1)
        ways["b", "c"] = Rising.steady(1)
        self.bad_way("a", "c", lambda: ways.told("a", "c"))
        ways["a", "c"] = Rising.steady(9)
        self.assertEqual(ways.told("a", "c"), Rising.steady(9))
        self.assertEqual(ways["a", "c"], Rising.steady(2))

    def test_from_a_place_to_itself(self):
        ways = Ways("a", "b")
        self.bad_way("a", "a", lambda: tell(ways, "a", "a", Rising.stay()))
        self.bad_way("b", "b", lambda: ways.told("b", "b"))
        self.assertEqual(len(ways), 0)

    def test_no_places(self):
        ways = Ways("a", "b")
        for wrong in NO_NAMES + ["c", "nowhere"]:
            for call in (
                lambda p, q: tell(ways, p, q, Rising.stay()), lambda p, q: ways.told(p, q), lambda p, q: ways[p, q],
            ):
                self.bad_name(wrong, lambda: call("a", wrong))
                self.bad_name(wrong, lambda: call(wrong, "a"))
                self.bad_name(wrong, lambda: call(wrong, wrong))
                self.bad_name(wrong, lambda: call(wrong, "zz"))
                self.bad_name("zz", lambda: call("zz", wrong))
        self.assertEqual((len(ways), ways), (0, Ways("a", "b")))

    def test_len(self):
        ways = Ways("a", "b", "c")
        self.assertEqual(len(ways), 0)
        ways["a", "b"] = Rising.steady(1)
        ways["b", "c"] = Rising.steady(1)
        self.assertEqual(len(ways), 2)
        ways["a", "b"] = Rising.steady(4)
        self.assertEqual(len(ways), 2)
        ways["b", "a"] = Rising.steady(4)
        self.assertEqual(len(ways), 3)


class Point12(WaysCase):
    def check_all(self, ways, roads, minutes):
        for start, end in itertools.product(ways.places, repeat=2):
            if walk_arrival(roads, start, end, 0) is None:
                self.assertNotIn((start, end), ways)
                self.bad_way(start, end, lambda: ways[start, end])
            else:
                self.assertIn((start, end), ways)
                way = ways[start, end]
                for t in minutes:
                    self.assertEqual(way(t), walk_arrival(roads, start, end, t), (start, end, t))

    def test_least_over_all_rows_of_told_ways(self):
        rng = random.Random(61)
        for _ in range(60):
            places = "abcd"[:rng.randint(1, 4)]
            ways, roads = some_ways(rng, places, rng.choice([0.3, 0.6, 1]))
            self.check_all(ways, roads, range(30))

    def test_five_and_six_places(self):
        rng = random.Random(62)
        for share in (0.2, 0.4, 1):
            for places in ("abcde", "fedcba"):
                ways, roads = some_ways(rng, places, share)
                self.check_all(ways, roads, (0, 3, 7, 20))

    def test_in_a_row_by_all_places(self):
        ways = Ways(*"abcdef")
        for start, end in ("ef", "de", "bc", "cd", "ab"):
            ways[start, end] = by_slots(7, [9, 2, 5])
        arrival = 4
        for _ in range(5):
            arrival = by_slots(7, [9, 2, 5])(arrival)
        self.assertEqual(ways["a", "f"](4), arrival)
        self.bad_way("f", "a", lambda: ways["f", "a"])
        self.bad_way("b", "a", lambda: ways["b", "a"])

    def test_other_way_at_other_minutes(self):
        ways = Ways("a", "b", "c")
        ways["a", "c"] = Rising.since(20) >> Rising.steady(1)
        ways["a", "b"] = Rising.steady(4)
        ways["b", "c"] = Rising.steady(6)
        self.assertEqual([ways["a", "c"](t) for t in (0, 10, 11, 20, 30)], [10, 20, 21, 21, 31])

    def test_waiting_at_a_place_between(self):
        ways = Ways("a", "b", "c")
        ways["a", "b"] = Rising.steady(2)
        ways["b", "c"] = by_slots(10, [30, 1])
        self.assertEqual(ways["a", "c"](0), 11)
        self.assertEqual(ways["a", "c"](9), 12)

    def test_a_place_to_itself(self):
        ways = Ways("a", "b")
        for place in "ab":
            self.assertEqual(ways[place, place], Rising.stay())
            self.assertIn((place, place), ways)
        ways["a", "b"] = ways["b", "a"] = Rising.stay()
        self.assertEqual(ways["a", "a"], Rising.stay())

    def test_in_with_names_that_are_no_places(self):
        ways = Ways("a", "b")
        ways["a", "b"] = Rising.steady(1)
        for wrong in NO_NAMES + ["c"]:
            self.assertIs((wrong, "a") in ways, False)
            self.assertIs(("a", wrong) in ways, False)
            self.assertIs((wrong, wrong) in ways, False)
        self.assertIs(("a", "b") in ways, True)
        self.assertIs(("b", "a") in ways, False)

    def test_what_was_read_does_not_change(self):
        ways = Ways("a", "b", "c")
        ways["a", "b"] = Rising.steady(3)
        ways["b", "c"] = Rising.steady(4)
        read, told = ways["a", "c"], ways.told("a", "b")
        ways["a", "b"] = Rising.steady(10)
        ways["a", "c"] = Rising.steady(1)
        self.assertEqual((read, told), (Rising.steady(7), Rising.steady(3)))
        self.assertEqual(ways["a", "c"], Rising.steady(1))
        self.assertEqual(ways["a", "b"], Rising.steady(10))

    def test_told_anew_with_a_slower_way(self):
        ways = Ways("a", "b", "c")
        ways["a", "b"] = ways["b", "c"] = Rising.steady(1)
        self.assertEqual(ways["a", "c"], Rising.steady(2))
        ways["a", "b"] = Rising.steady(8)
        self.assertEqual(ways["a", "c"], Rising.steady(9))

    def test_ways_are_not_iterated_over(self):
        with self.assertRaises(TypeError):
            list(Ways("a", "b"))


class Point13(WaysCase):
    def test_longer(self):
        rng = random.Random(63)
        for n in (0, 1, 7, 10 ** 12):
            ways, roads = some_ways(rng, "abcd", 0.5)
            longer = ways + n
            self.assertEqual(longer.places, ways.places)
            self.assertEqual(len(longer), len(ways))
            for pair, way in roads.items():
                self.assertEqual(longer.told(*pair), way + n)
                self.assertEqual(ways.told(*pair), way)
            for pair in itertools.permutations("abcd", 2):
                self.assertIs(pair in longer, pair in ways)

    def test_longer_by_wrong_numbers(self):
        ways = Ways("a", "b")
        for wrong in (-1, True, False, None, "1"):
            self.bad_number("minutes", wrong, lambda: ways + wrong)

    def test_each_told_way_of_a_row_is_longer(self):
        ways = Ways("a", "b", "c")
        ways["a", "b"] = ways["b", "c"] = Rising.steady(1)
        self.assertEqual((ways + 5)["a", "c"], Rising.steady(12))
        self.assertEqual((ways + 5)["a", "a"], Rising.stay())

    def test_copy_is_another_object(self):
        ways, _ = some_ways(random.Random(64), "abc", 1)
        for other in (ways.copy(), ways + 0):
            self.assertEqual(other, ways)
            self.assertIsNot(other, ways)
            other["a", "b"] = Rising.steady(1000)
            self.assertNotEqual(other, ways)
            self.assertNotEqual(ways.told("a", "b"), Rising.steady(1000))
        other = ways.copy()
        ways["a", "b"] = Rising.steady(2000)
        self.assertNotEqual(other.told("a", "b"), Rising.steady(2000))

    def test_equal(self):
        def made(*places):
            ways = Ways(*places)
            ways["a", "b"] = Rising.steady(3)
            return ways
        self.assertTrue(made("a", "b") == made("a", "b"))
        self.assertFalse(made("a", "b") != made("a", "b"))
        self.assertFalse(made("a", "b") == made("b", "a"))
        self.assertFalse(made("a", "b") == made("a", "b", "c"))
        self.assertFalse(made("a", "b") == made("a", "b") + 1)
        self.assertFalse(made("a", "b") == Ways("a", "b"))
        self.assertTrue(Ways("a", "b") == Ways("a", "b"))
        self.assertFalse(Ways("a", "b") == Ways("a", "c"))
        for other in (None, 3, ("a", "b"), {}):
            self.assertFalse(made("a", "b") == other)

    def test_told_in_another_order_is_equal(self):
        one, two = Ways("a", "b"), Ways("a", "b")
        tell(one, "a", "b", Rising.steady(1))
        tell(one, "b", "a", Rising.steady(2))
        tell(two, "b", "a", Rising.steady(2))
        tell(two, "a", "b", Rising.steady(1))
        self.assertTrue(one == two)

    def test_same_reading_but_told_otherwise_is_not_equal(self):
        one, two = Ways("a", "b", "c"), Ways("a", "b", "c")
        for ways in (one, two):
            ways["a", "b"] = ways["b", "c"] = Rising.steady(1)
        two["a", "c"] = Rising.steady(2)
        self.assertFalse(one == two)
        self.assertTrue(one <= two and two <= one)

    def test_never_slower(self):
        rng = random.Random(65)
        seen = {True: 0, False: 0}
        for _ in range(150):
            one, told_one = some_ways(rng, "abc", 0.8)
            two, told_two = some_ways(rng, "abc", 0.5)
            if rng.random() < 0.5:
                two = two + 12
                told_two = {pair: way + 12 for pair, way in told_two.items()}
            answer = True
            for start, end in itertools.permutations("abc", 2):
                for t in range(60):
                    slow = walk_arrival(told_two, start, end, t)
                    fast = walk_arrival(told_one, start, end, t)
                    if slow is not None and (fast is None or fast > slow):
                        answer = False
            self.assertIs(one <= two, answer)
            seen[answer] += 1
        self.assertTrue(seen[True] > 10 and seen[False] > 10, seen)

    def test_never_slower_with_missing_ways(self):
        some, none = Ways("a", "b"), Ways("a", "b")
        some["a", "b"] = Rising.steady(3)
        self.assertIs(some <= none, True)
        self.assertIs(none <= some, False)
        self.assertIs(none <= none, True)
        self.assertIs(some <= some, True)
        self.assertIs(some <= some + 1, True)
        self.assertIs(some + 1 <= some, False)

    def test_never_slower_by_other_places(self):
        row, straight = Ways("a", "b", "c"), Ways("a", "b", "c")
        row["a", "b"] = row["b", "c"] = Rising.steady(2)
        straight["a", "c"] = Rising.steady(4)
        self.assertIs(row <= straight, True)
        self.assertIs(straight <= row, False)
        straight["a", "c"] = Rising.steady(3)
        self.assertIs(row <= straight, False)

    def test_never_slower_with_other_places(self):
        for places in (("b", "a"), ("a", "c"), ("a", "b", "c"), ("a",)):
            self.assertIs(Ways("a", "b") <= Ways(*places), False)
            self.assertIs(Ways(*places) <= Ways("a", "b"), False)


if __name__ == "__main__":
    unittest.main()

"""Point 41: rides seen."""

import itertools
import random
import unittest

from laterways.errors import BadNumber, BadRides
from laterways.rides import Rides
from laterways.rising import Rising
from models import some_rows
from test_day import NO_INTEGERS
from test_ways import WaysCase

LAST = 4
MOST = 6


def small_maps(most):
    """The values from minute 0 to LAST of all rising maps that are at most so great there."""
    found = [()]
    for minute in range(LAST + 1):
        found = [row + (value,) for row in found for value in range(max(row + (minute,)), most + 1)]
    return found


def map_of(values):
    """A map with these values at the first minutes."""
    rows = [(minute, value, False) for minute, value in enumerate(values)]
    last = values[-1]
    rows[-1] = (len(values) - 1, last, False)
    return Rising(rows + [(last + 1, last + 1, True)])


def agrees(rows):
    """The place of the first ride that does not agree with an earlier one, or None."""
    for place, (left, came) in enumerate(rows):
        for other, before in rows[:place]:
            if (other <= left and before > came) or (other >= left and before < came):
                return place
    return None


def rides_of(rng, rows, many):
    """Rides of the map with these rows."""
    f = Rising(rows)
    lefts = [rng.randint(0, 25) for _ in range(many)]
    return [(left, f(left)) for left in lefts]


class RidesCase(WaysCase):
    def bad_rides(self, place, *rows):
        with self.assertRaises(BadRides) as held:
            Rides(*rows)
        self.assertEqual(held.exception.place, place)
        self.assertIs(held.exception.place.__class__, int)


class Made(RidesCase):
    def test_rows_in_the_told_order(self):
        rows = [(9, 12), (3, 7), (9, 12), (0, 7), (3, 7)]
        rides = Rides(*rows)
        self.assertEqual(rides.rows, tuple(rows))
        self.assertIs(rides.rows.__class__, tuple)
        self.assertEqual({row.__class__ for row in rides.rows}, {tuple})
        self.assertEqual(Rides().rows, ())
        self.assertEqual(Rides((0, 0)).rows, ((0, 0),))

    def test_left(self):
        for wrong in [-1] + NO_INTEGERS:
            self.bad_number("left", wrong, lambda: Rides((wrong, 5)))
            self.bad_number("left", wrong, lambda: Rides((wrong, -7)))
            self.bad_number("left", wrong, lambda: Rides((3, 5), (wrong, None), (3, 4)))

    def test_came(self):
        for wrong in [-1, 2] + NO_INTEGERS:
            self.bad_number("came", wrong, lambda: Rides((3, wrong)))
            self.bad_number("came", wrong, lambda: Rides((0, 9), (3, wrong), (True, 7)))
        self.assertEqual(Rides((3, 3)).rows, ((3, 3),))
        self.assertEqual(Rides((10 ** 30, 10 ** 31)).rows, ((10 ** 30, 10 ** 31),))

    def test_rides_that_do_not_agree(self):
        self.bad_rides(1, (5, 9), (5, 8))
        self.bad_rides(1, (5, 9), (5, 10))
        self.bad_rides(1, (5, 9), (6, 8))
        self.bad_rides(1, (5, 9), (4, 10))
        self.bad_rides(2, (5, 9), (7, 9), (6, 10))
        self.bad_rides(2, (7, 9), (5, 9), (6, 8))
        self.bad_rides(2, (5, 9), (5, 9), (5, 7))
        self.bad_rides(3, (9, 20), (2, 5), (5, 9), (4, 4), (5, 9))
        for rows in ([(5, 9), (6, 9)], [(6, 9), (5, 9)], [(5, 9), (6, 10)], [(6, 10), (5, 9)], [(5, 9), (5, 9)]):
            self.assertEqual(Rides(*rows).rows, tuple(rows))

    def test_row_by_row(self):
        """Each row with all its errors before the next one."""
        self.bad_rides(1, (5, 9), (5, 8), (True, 7))
        self.bad_rides(1, (5, 9), (5, 8), (5, 7))
        self.bad_number("left", None, lambda: Rides((5, 9), (None, 8), (5, 7)))
        self.bad_number("came", 3, lambda: Rides((5, 9), (6, 3), (5, 7)))

    def test_all_small_rows(self):
        rides = [(left, came) for left in range(3) for came in range(left, 4)]
        refused = 0
        for rows in itertools.product(rides, repeat=3):
            place = agrees(rows)
            if place is None:
                self.assertEqual(Rides(*rows).rows, rows)
            else:
                self.bad_rides(place, *rows)
                refused += 1
        self.assertTrue(100 < refused < 650, refused)


class Bounds(RidesCase):
    def test_example(self):
        rides = Rides((10, 20), (15, 20), (30, 50))
        minutes = (0, 9, 10, 12, 15, 16, 20, 21, 29, 30, 31, 50, 60)
        self.assertEqual([rides.at_least(t) for t in minutes], [0, 9, 20, 20, 20, 20, 20, 21, 29, 50, 50, 50, 60])
        most = [20, 20, 20, 20, 20, 50, 50, 50, 50, 50, None, None, None]
        self.assertEqual([rides.at_most(t) for t in minutes], most)

    def test_without_rides(self):
        for minute in (0, 1, 77, 10 ** 30):
            self.assertEqual(Rides().at_least(minute), minute)
            self.assertIsNone(Rides().at_most(minute))
            self.assertIs(minute in Rides(), False)
        self.assertEqual(Rides().low(), Rising.stay())

    def test_against_all_small_maps(self):
        few, more = small_maps(MOST), small_maps(MOST + 1)
        rides = [(left, came) for left in range(LAST + 1) for came in range(left, MOST + 1)]
        rng = random.Random(411)
        cases = [()] + [(ride,) for ride in rides] + [tuple(rng.sample(rides, rng.randint(2, 4))) for _ in range(150)]
        kept = 0
        for rows in cases:
            fitting = [values for values in few if all(values[left] == came for left, came in rows)]
            if agrees(rows) is not None:
                self.assertEqual(fitting, [])
                continue
            kept += 1
            other = [values for values in more if all(values[left] == came for left, came in rows)]
            seen = Rides(*rows)
            for minute in range(LAST + 1):
                values = [row[minute] for row in fitting]
                greatest = max(row[minute] for row in other)
                self.assertEqual(seen.at_least(minute), min(values))
                bound = max(values) if max(values) == greatest else None
                self.assertEqual(seen.at_most(minute), bound)
                self.assertIs(minute in seen, set(values) == {bound})
                for far in range(-1, MOST + 2):
                    self.assertIs(seen.surely_late(minute, far), min(values) > far)
                    self.assertIs(seen.surely_in_time(minute, far), bound is not None and bound <= far)
        self.assertTrue(kept > 60, kept)

    def test_the_bounds_are_values_of_fitting_maps(self):
        rng = random.Random(412)
        for _ in range(150):
            rows = rides_of(rng, some_rows(rng), rng.randint(0, 5))
            seen = Rides(*rows)
            self.assertTrue(seen.fits(seen.low()))
            for minute in range(40):
                most = seen.at_most(minute)
                self.assertEqual(most is None, all(left < minute for left, _ in rows))
                if most is not None:
                    step = [(minute, most, False), (most + 1, most + 1, True)]
                    high = seen.low() | Rising(step if minute == 0 else [(0, 0, True)] + step)
                    self.assertTrue(seen.fits(high))
                    self.assertEqual(high(minute), most)

    def test_minutes(self):
        rides = Rides((3, 7))
        for wrong in [-1] + NO_INTEGERS:
            self.bad_number("minute", wrong, lambda: rides.at_least(wrong))
            self.bad_number("minute", wrong, lambda: rides.at_most(wrong))
            self.bad_number("minute", wrong, lambda: wrong in rides)
            self.bad_number("minute", wrong, lambda: Rides().at_most(wrong))


class Low(RidesCase):
    def test_example(self):
        low = Rides((10, 20), (15, 20), (30, 50)).low()
        self.assertIs(low.__class__, Rising)
        self.assertEqual(str(low), "0:0+ 10:20 21:21+ 30:50 51:51+")
        self.assertEqual(Rides((0, 0)).low(), Rising.stay())
        self.assertEqual(Rides((0, 7)).low(), Rising.since(7))
        self.assertEqual(Rides((5, 5), (9, 9)).low(), Rising.stay())

    def test_at_every_minute(self):
        rng = random.Random(413)
        for _ in range(200):
            seen = Rides(*rides_of(rng, some_rows(rng, high=15), rng.randint(0, 6)))
            low = seen.low()
            for minute in range(80):
                self.assertEqual(low(minute), seen.at_least(minute))
            self.assertEqual(low(10 ** 20), 10 ** 20)

    def test_least_of_all_fitting_maps(self):
        rng = random.Random(414)
        for _ in range(100):
            rows = some_rows(rng)
            self.assertTrue(Rides(*rides_of(rng, rows, 4)).low() <= Rising(rows))


class Fits(RidesCase):
    def test_maps_that_differ_at_one_minute(self):
        rows = [(1, 4), (3, 6), (3, 6)]
        seen = Rides(*rows)
        taken = 0
        for values in small_maps(8):
            right = values[1] == 4 and values[3] == 6
            self.assertIs(seen.fits(map_of(values)), right)
            taken += right
        self.assertTrue(taken > 10, taken)

    def test_one_minute_of_a_ride(self):
        f = Rising([(0, 5, True), (10, 30, False), (31, 31, True)])
        seen = Rides((4, 9), (9, 14), (10, 30), (29, 30))
        self.assertIs(seen.fits(f), True)
        self.assertIs(seen.fits(Rising([(0, 5, True), (9, 30, False), (31, 31, True)])), False)
        self.assertIs(seen.fits(Rising([(0, 5, True), (11, 30, False), (31, 31, True)])), False)
        self.assertIs(seen.fits(Rising([(0, 5, True), (10, 30, False), (29, 31, False), (31, 31, True)])), False)
        end = [(9, 14, False), (10, 30, False), (31, 31, True)]
        self.assertIs(seen.fits(Rising([(0, 6, True), (5, 11, False)] + end)), False)
        self.assertIs(seen.fits(Rising([(0, 0, True), (4, 9, False)] + end)), True)

    def test_without_rides(self):
        self.assertIs(Rides().fits(Rising.steady(5)), True)


class Sure(RidesCase):
    def test_in(self):
        seen = Rides((10, 20), (15, 20), (30, 50))
        self.assertEqual([minute for minute in range(70) if minute in seen], [10, 11, 12, 13, 14, 15, 30])
        self.assertEqual([minute for minute in range(20) if minute in Rides((6, 9), (2, 9))], [2, 3, 4, 5, 6])
        self.assertEqual([minute for minute in range(20) if minute in Rides((5, 5), (6, 6))], [5, 6])
        self.assertIs(10 in seen, True)

    def test_late_and_in_time(self):
        seen = Rides((10, 20), (30, 50))
        self.assertIs(seen.surely_late(12, 19), True)
        self.assertIs(seen.surely_late(12, 20), False)
        self.assertIs(seen.surely_in_time(12, 49), False)
        self.assertIs(seen.surely_in_time(12, 50), True)
        self.assertIs(seen.surely_in_time(31, 10 ** 30), False)
        self.assertIs(seen.surely_late(100, 99), True)
        self.assertIs(seen.surely_late(100, 100), False)

    def test_minutes_below_zero(self):
        seen = Rides((0, 0))
        for minute in (-1, -10 ** 30):
            self.assertIs(seen.surely_late(0, minute), True)
            self.assertIs(seen.surely_in_time(0, minute), False)
        self.assertIs(seen.surely_in_time(0, 0), True)

    def test_errors(self):
        for seen in (Rides((10, 20)), Rides()):
            for call in (seen.surely_late, seen.surely_in_time):
                for wrong in [-1] + NO_INTEGERS:
                    self.bad_number("minute", wrong, lambda: call(wrong, 5))
                    self.bad_number("minute", wrong, lambda: call(wrong, "x"))
                for wrong in NO_INTEGERS:
                    self.bad_number("minute", wrong, lambda: call(5, wrong))
                    self.bad_number("minute", wrong, lambda: call(50, wrong))
                    self.bad_number("minute", -1, lambda: call(-1, wrong))


class Added(RidesCase):
    def test_rows_of_both(self):
        one, two = Rides((5, 9), (3, 7)), Rides((3, 7), (12, 20))
        both = one + two
        self.assertIs(both.__class__, Rides)
        self.assertEqual(both.rows, ((5, 9), (3, 7), (3, 7), (12, 20)))
        self.assertEqual((two + one).rows, ((3, 7), (12, 20), (5, 9), (3, 7)))
        self.assertEqual((one.rows, two.rows), (((5, 9), (3, 7)), ((3, 7), (12, 20))))
        self.assertEqual((one + Rides()).rows, one.rows)
        self.assertEqual((Rides() + one).rows, one.rows)

    def test_errors_of_one_list(self):
        rng = random.Random(415)
        refused = 0
        for _ in range(300):
            one = rides_of(rng, some_rows(rng), rng.randint(0, 3))
            two = rides_of(rng, some_rows(rng), rng.randint(0, 3))
            place = agrees(one + two)
            if place is None:
                self.assertEqual((Rides(*one) + Rides(*two)).rows, tuple(one + two))
                continue
            refused += 1
            self.bad_rides(place, *(one + two))
            with self.assertRaises(BadRides) as held:
                Rides(*one) + Rides(*two)
            self.assertEqual(held.exception.place, place)
        self.assertTrue(50 < refused < 250, refused)

    def test_numbers_are_told_first(self):
        with self.assertRaises(BadNumber):
            Rides((5, 9)) + Rides((5, 4))


if __name__ == "__main__":
    unittest.main()

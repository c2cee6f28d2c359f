"""Point 10: ways by slots."""

import random
import unittest

from laterways.errors import BadNumber
from laterways.slots import by_slots, ride
from models import point_six, slot_arrival, slot_ride

NO_INTEGERS = [True, False, None, "5", 5.0, (5,)]


def some_slots(rng):
    length = rng.randint(1, 12)
    high = rng.choice([3, 10, 40])
    return length, [rng.randint(0, high) for _ in range(rng.randint(1, 7))]


class Point10(unittest.TestCase):
    def check(self, length, minutes):
        f = by_slots(length, minutes)
        far = length * len(minutes) + 20
        values = [slot_arrival(length, minutes, t) for t in range(far + 2)]
        self.assertEqual([f(t) for t in range(far + 2)], values, (length, minutes))
        self.assertEqual(f.rows, point_six(lambda t: values[t], length * len(minutes)), (length, minutes))

    def test_example_of_the_document(self):
        f = by_slots(60, [20, 5])
        self.assertEqual(f.rows, ((0, 20, True), (46, 65, False), (61, 66, True)))

    def test_least_arrival_of_all_leavings_from_then_on(self):
        rng = random.Random(51)
        for _ in range(300):
            self.check(*some_slots(rng))

    def test_waiting_for_a_slot_behind_the_next_one(self):
        self.check(5, [30, 20, 1])
        self.check(5, [30, 40, 1])
        self.check(5, [10, 10, 0])
        self.assertEqual(by_slots(5, [30, 40, 1])(0), 11)

    def test_lengths_and_numbers_of_slots(self):
        rng = random.Random(52)
        self.check(1, [0])
        self.check(1, [600])
        self.check(720, [0])
        self.check(720, [600, 0])
        self.check(1, [rng.randint(0, 600) for _ in range(48)])
        self.check(1, [rng.randint(0, 20) for _ in range(48)])
        self.check(2, [600, 0] * 24)
        many = [rng.randint(0, 600) for _ in range(48)]
        f = by_slots(720, many)
        for t in [0, 1, 719, 720, 721, 47 * 720 - 1, 47 * 720, 47 * 720 + 1, 10 ** 6]:
            self.assertEqual(f(t), slot_arrival(720, many, t))

    def test_last_slot_goes_on(self):
        f = by_slots(10, [3, 8])
        self.assertEqual(f(10 ** 30), 10 ** 30 + 8)
        self.assertEqual(ride(10, [3, 8], 10 ** 30), 10 ** 30 + 8)

    def test_tuple_for_a_list_and_nothing_modified(self):
        minutes = [20, 5, 9]
        self.assertEqual(by_slots(60, (20, 5, 9)), by_slots(60, minutes))
        self.assertEqual(ride(60, (20, 5, 9), 61), ride(60, minutes, 61))
        self.assertEqual(minutes, [20, 5, 9])

    def test_ride_without_waiting(self):
        rng = random.Random(53)
        self.assertEqual([ride(60, [20, 5], t) for t in (0, 59, 60, 61, 120, 500)], [20, 79, 65, 66, 125, 505])
        for _ in range(100):
            length, minutes = some_slots(rng)
            for t in range(length * len(minutes) + 15):
                self.assertEqual(ride(length, minutes, t), slot_ride(length, minutes, t))
                self.assertLessEqual(by_slots(length, minutes)(t), ride(length, minutes, t))


class Point10Refused(unittest.TestCase):
    def refused(self, what, value, length, minutes):
        for call in (lambda: by_slots(length, minutes), lambda: ride(length, minutes, 0), lambda: ride(length, minutes, -1)):
            with self.assertRaises(BadNumber) as held:
                call()
            self.assertEqual((held.exception.what, held.exception.value), (what, value))

    def test_length(self):
        for wrong in [0, -1, 721] + NO_INTEGERS:
            self.refused("length", wrong, wrong, [5])
            self.refused("length", wrong, wrong, [])
            self.refused("length", wrong, wrong, [-1])
        self.assertEqual(by_slots(1, [5])(0), 5)
        self.assertEqual(by_slots(720, [5])(0), 5)

    def test_number_of_slots(self):
        self.refused("slots", 0, 60, [])
        self.refused("slots", 49, 60, [5] * 49)
        self.refused("slots", 49, 60, [-1] * 49)
        self.assertEqual(by_slots(60, [5] * 48).rows, ((0, 5, True),))

    def test_riding(self):
        for wrong in [-1, 601] + NO_INTEGERS:
            self.refused("riding", wrong, 60, [wrong])
            self.refused("riding", wrong, 60, [5, wrong, 5])
            self.refused("riding", wrong, 60, [0, 600, wrong])
        self.refused("riding", 601, 60, [5, 601, -1])
        self.refused("riding", -1, 60, [5, -1, 601])

    def test_leaving(self):
        for wrong in [-1] + NO_INTEGERS:
            with self.assertRaises(BadNumber) as held:
                ride(60, [20, 5], wrong)
            self.assertEqual(held.exception.what, "minute")
            self.assertIs(held.exception.value, wrong)


if __name__ == "__main__":
    unittest.main()

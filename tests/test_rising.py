"""Points 4 to 7: maps by rows, their shortest rows, values and backs."""

import itertools
import unittest

from laterways.errors import BadNumber, BadRows
from laterways.rising import Rising
from models import many_rows, point_six, row_values

FAR = 80
NO_MINUTES = [-1, -10 ** 20, True, False, None, "0", "7", 1.0, (1,), [1]]


class Point5BadRows(unittest.TestCase):
    def refused(self, rows, place):
        for given in (list(rows), tuple(rows)):
            with self.assertRaises(BadRows, msg=str(rows)) as held:
                Rising(given)
            self.assertEqual(held.exception.place, place, rows)

    def test_no_rows(self):
        self.refused([], 0)

    def test_start_or_value_no_integer(self):
        for wrong in (True, False, None, "3", 3.0, (3,)):
            self.refused([(wrong, 9, True)], 0)
            self.refused([(0, wrong, True)], 0)
            self.refused([(0, 9, False), (wrong, 9, False), (9, 9, True)], 1)
            self.refused([(0, 9, False), (3, wrong, False), (9, 9, True)], 1)
            self.refused([(0, 9, False), (3, 9, False), (wrong, 20, True)], 2)
            self.refused([(0, 9, False), (3, 9, False), (9, wrong, True)], 2)

    def test_true_and_false_are_no_integers(self):
        self.refused([(False, 3, True)], 0)
        self.refused([(0, True, True)], 0)
        self.refused([(0, 3, True), (True, 4, True)], 1)

    def test_first_start_is_not_0(self):
        for start in (-1, 1, 5):
            self.refused([(start, 9, True)], 0)
            self.refused([(start, 9, True), (20, 40, True)], 0)

    def test_start_not_greater(self):
        self.refused([(0, 9, False), (0, 9, True)], 1)
        self.refused([(0, 9, False), (-1, 9, True)], 1)
        self.refused([(0, 9, False), (4, 9, False), (4, 9, True)], 2)
        self.refused([(0, 9, False), (4, 9, False), (3, 9, True)], 2)

    def test_value_less_than_start(self):
        self.refused([(0, -1, True)], 0)
        self.refused([(0, 3, False), (4, 3, True)], 1)
        self.refused([(0, 3, False), (2, 4, False), (5, 4, True)], 2)
        self.assertEqual(Rising([(0, 3, False), (4, 4, True)])(4), 4)

    def test_value_falls(self):
        self.refused([(0, 9, False), (4, 8, True)], 1)
        self.refused([(0, 9, True), (4, 11, True)], 1)
        self.refused([(0, 9, True), (4, 11, False), (5, 20, True)], 1)
        self.refused([(0, 9, False), (2, 9, True), (4, 9, True)], 2)
        self.assertEqual(Rising([(0, 9, True), (4, 12, True)])(4), 12)

    def test_level_row_before_falls_below_the_minute(self):
        self.refused([(0, 3, False), (5, 9, True)], 1)
        self.refused([(0, 3, False), (2, 3, False), (5, 9, True)], 2)
        self.assertEqual(Rising([(0, 3, False), (4, 9, True)])(3), 3)

    def test_last_row_does_not_grow(self):
        self.refused([(0, 3, False)], 0)
        self.refused([(0, 3, True), (4, 9, False)], 1)
        self.refused([(0, 3, True), (4, 9, False), (6, 9, False)], 2)

    def test_first_bad_row_is_told(self):
        self.refused([(1, 0, False), (0, None, True), (0, 0, False)], 0)
        self.refused([(0, 4, True), (0, 4, True), (None, 4, True)], 1)
        self.refused([(0, 4, True), (2, 7, True), (3, 6, True), (2, 1, False)], 2)

    def test_good_rows_against_the_sentences(self):
        """All rows of small numbers are good or bad at the place that point 5 names."""
        rows = list(itertools.product(range(3), range(-1, 4), (False, True)))
        for one, two in itertools.product(rows, rows):
            place = self.bad_place([one, two])
            if place is None:
                self.assertEqual([Rising([one, two])(t) for t in range(9)], row_values([one, two], 9))
            else:
                self.refused([one, two], place)

    def bad_place(self, rows):
        for place, (start, value, grows) in enumerate(rows):
            bad = value < start or (place == 0 and start != 0)
            bad = bad or (place == len(rows) - 1 and not grows)
            if place > 0:
                first, level, climbs = rows[place - 1]
                bad = bad or start <= first
                bad = bad or value < (level + start - 1 - first if climbs else level)
                bad = bad or (not climbs and level < start - 1)
            if bad:
                return place
        return None


class Points4And5Values(unittest.TestCase):
    def test_values_are_those_of_the_rows(self):
        for rows in many_rows(1, 400):
            f = Rising(rows)
            values = [f(t) for t in range(FAR)]
            self.assertEqual(values, row_values(rows, FAR))
            self.assertTrue(all(f(t) >= t for t in range(FAR)))
            self.assertEqual(values, sorted(values))

    def test_far_behind_the_last_row(self):
        for rows in many_rows(2, 50):
            start, value, _ = rows[-1]
            f = Rising(rows)
            for more in (0, 1, 10 ** 6, 10 ** 40):
                self.assertEqual(f(start + more), value + more)
                self.assertEqual(f.back(value + more), start + more)

    def test_list_that_was_passed_is_copied(self):
        rows = [(0, 3, False), (2, 5, True)]
        f = Rising(rows)
        rows[0] = (0, 9, False)
        rows.append((9, 99, True))
        self.assertEqual(f.rows, ((0, 3, False), (2, 5, True)))
        self.assertEqual(rows, [(0, 9, False), (2, 5, True), (9, 99, True)])
        self.assertEqual([f(0), f(1), f(2), f(9)], [3, 3, 5, 12])

    def test_list_that_was_passed_is_not_modified(self):
        for rows in many_rows(3, 50):
            before = list(rows)
            Rising(rows)
            self.assertEqual(rows, before)

    def test_tuple_for_a_list(self):
        for rows in many_rows(4, 20):
            self.assertEqual(Rising(tuple(rows)), Rising(rows))


class Point6Rows(unittest.TestCase):
    def test_rows_of_point_6(self):
        for rows in many_rows(5, 600):
            f = Rising(rows)
            values = row_values(rows, FAR)
            self.assertEqual(f.rows, point_six(lambda t: values[t], rows[-1][0]), rows)
            self.assertIs(f.rows.__class__, tuple)
            self.assertTrue(all(row.__class__ is tuple for row in f.rows))
            self.assertTrue(all(row[2] is True or row[2] is False for row in f.rows))

    def test_rows_do_not_change_when_given_again(self):
        for rows in many_rows(6, 200):
            f = Rising(rows)
            self.assertEqual(Rising(f.rows).rows, f.rows)

    def test_named_cases(self):
        cases = [
            ([(0, 0, True), (5, 5, True)], ((0, 0, True),)),
            ([(0, 5, False), (1, 6, False), (2, 7, True)], ((0, 5, True),)),
            ([(0, 5, True), (2, 6, False), (4, 7, True)], ((0, 5, True), (2, 6, False), (4, 7, True))),
            ([(0, 5, False), (2, 5, True)], ((0, 5, False), (3, 6, True))),
            ([(0, 5, False), (1, 5, False), (2, 5, True)], ((0, 5, False), (3, 6, True))),
            ([(0, 5, False), (1, 7, True)], ((0, 5, False), (1, 7, True))),
            ([(0, 5, False), (1, 8, False), (2, 12, True)], ((0, 5, False), (1, 8, False), (2, 12, True))),
            ([(0, 5, True), (1, 8, False), (2, 12, True)], ((0, 5, False), (1, 8, False), (2, 12, True))),
            ([(0, 5, True), (2, 9, True)], ((0, 5, True), (2, 9, True))),
            ([(0, 5, True), (2, 6, True)], ((0, 5, True), (2, 6, True))),
            ([(0, 4, False), (1, 5, False), (3, 5, False), (4, 6, True)], ((0, 4, True), (2, 5, False), (4, 6, True))),
            ([(0, 4, False), (1, 5, False), (2, 5, True)], ((0, 4, True), (2, 5, True))),
        ]
        for rows, shortest in cases:
            self.assertEqual(Rising(rows).rows, shortest, rows)

    def test_equal_just_if_the_values_are(self):
        maps = [Rising(rows) for rows in many_rows(7, 150)]
        tables = [[f(t) for t in range(FAR)] for f in maps]
        for one, two in itertools.product(range(len(maps)), repeat=2):
            self.assertEqual(maps[one] == maps[two], tables[one] == tables[two])
            self.assertEqual(maps[one] != maps[two], tables[one] != tables[two])
            self.assertEqual(maps[one].rows == maps[two].rows, tables[one] == tables[two])

    def test_each_minute_counts(self):
        for rows in many_rows(8, 60):
            f = Rising(rows)
            for at in range(12):
                values = row_values(rows, 60)
                if values[at] < values[at + 1]:
                    values[at] += 1
                    other = Rising([(t, values[t], False) for t in range(59)] + [(59, values[59], True)])
                    self.assertFalse(f == other)
                    self.assertTrue(f != other)

    def test_other_values_are_not_equal(self):
        f = Rising([(0, 3, True)])
        for other in (None, 3, "0:3+", ((0, 3, True),), [(0, 3, True)]):
            self.assertFalse(f == other)
            self.assertTrue(f != other)

    def test_len_and_iteration(self):
        for rows in many_rows(9, 60):
            f = Rising(rows)
            self.assertEqual(len(f), len(f.rows))
            self.assertEqual(list(f), list(f.rows))
            self.assertEqual([row for row in f], list(f.rows))
        self.assertEqual(len(Rising([(0, 5, True), (2, 6, False), (4, 7, True)])), 3)


class Point7(unittest.TestCase):
    def test_wrong_minutes(self):
        f = Rising([(0, 3, False), (2, 5, True)])
        for wrong in NO_MINUTES:
            with self.assertRaises(BadNumber) as held:
                f(wrong)
            self.assertEqual(held.exception.what, "minute")
            self.assertIs(held.exception.value, wrong)

    def test_back_minute_by_minute(self):
        for rows in many_rows(10, 300):
            f = Rising(rows)
            values = row_values(rows, FAR)
            for y in range(-3, 45):
                last = [t for t in range(FAR) if values[t] <= y]
                self.assertEqual(f.back(y), last[-1] if last else None, (rows, y))

    def test_back_of_any_integer(self):
        f = Rising([(0, 3, False), (2, 5, True)])
        self.assertEqual([f.back(y) for y in (-10 ** 30, -1, 0, 2)], [None] * 4)
        self.assertEqual([f.back(y) for y in (3, 4, 5, 6, 10 ** 30)], [1, 1, 2, 3, 10 ** 30 - 3])

    def test_back_of_no_integer(self):
        f = Rising([(0, 3, False), (2, 5, True)])
        for wrong in (True, False, None, "3", 3.0, [3]):
            with self.assertRaises(BadNumber) as held:
                f.back(wrong)
            self.assertEqual(held.exception.what, "minute")
            self.assertIs(held.exception.value, wrong)

    def test_stay(self):
        self.assertEqual(Rising.stay().rows, ((0, 0, True),))
        self.assertEqual([Rising.stay()(t) for t in range(5)], [0, 1, 2, 3, 4])

    def test_steady(self):
        for n in (0, 1, 7, 10 ** 20):
            self.assertEqual(Rising.steady(n).rows, ((0, n, True),))
            self.assertEqual([Rising.steady(n)(t) for t in range(5)], [t + n for t in range(5)])
        self.assertEqual(Rising.steady(0), Rising.stay())

    def test_since(self):
        for n in range(8):
            f = Rising.since(n)
            self.assertEqual([f(t) for t in range(20)], [t if t >= n else n for t in range(20)])
            self.assertEqual(f.rows, point_six(f, n + 1))
        self.assertEqual(Rising.since(0), Rising.stay())
        self.assertEqual(Rising.since(10 ** 20)(4), 10 ** 20)

    def test_wrong_numbers(self):
        for wrong in NO_MINUTES:
            for make, what in ((Rising.steady, "minutes"), (Rising.since, "minute")):
                with self.assertRaises(BadNumber) as held:
                    make(wrong)
                self.assertEqual(held.exception.what, what)
                self.assertIs(held.exception.value, wrong)

    def test_static_methods_of_an_object(self):
        f = Rising([(0, 3, True)])
        self.assertEqual((f.stay(), f.steady(2), f.since(3)), (Rising.stay(), Rising.steady(2), Rising.since(3)))


if __name__ == "__main__":
    unittest.main()

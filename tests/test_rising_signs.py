"""Points 8, 9 and 44: the signs between maps, levels, their laws, str."""

import random
import unittest

from laterways.errors import BadNumber
from laterways.rising import Rising
from models import many_rows, point_six, row_values

FAR = 90
UNTIL = 60


def pairs(seed, many):
    rows = many_rows(seed, 2 * many)
    return [(Rising(rows[k]), Rising(rows[k + 1])) for k in range(0, 2 * many, 2)]


def triples(seed, many):
    rows = many_rows(seed, 3 * many)
    return [tuple(Rising(rows[k + j]) for j in range(3)) for k in range(0, 3 * many, 3)]


class Point8(unittest.TestCase):
    def check(self, result, value, case):
        self.assertIs(result.__class__, Rising)
        self.assertEqual([result(t) for t in range(FAR)], [value(t) for t in range(FAR)], case)
        self.assertEqual(result.rows, point_six(value, UNTIL), case)

    def test_greater(self):
        for f, g in pairs(21, 400):
            self.check(f | g, lambda t: max(f(t), g(t)), (f.rows, g.rows))

    def test_lesser(self):
        for f, g in pairs(22, 400):
            self.check(f & g, lambda t: min(f(t), g(t)), (f.rows, g.rows))

    def test_one_behind_the_other(self):
        for f, g in pairs(23, 400):
            self.check(f >> g, lambda t: g(f(t)), (f.rows, g.rows))

    def test_longer_from_both_sides(self):
        rng = random.Random(24)
        for f, _ in pairs(24, 100):
            for n in (0, 1, rng.randint(2, 30)):
                self.check(f + n, lambda t: f(t) + n, f.rows)
                self.check(n + f, lambda t: f(t) + n, f.rows)
        self.assertEqual((Rising.stay() + 10 ** 30)(1), 10 ** 30 + 1)

    def test_wrong_minutes(self):
        f = Rising([(0, 3, False), (2, 5, True)])
        for wrong in (-1, True, False, None, "1", 1.0, f):
            for add in (lambda: f + wrong, lambda: wrong + f):
                with self.assertRaises(BadNumber) as held:
                    add()
                self.assertEqual(held.exception.what, "minutes")
                self.assertIs(held.exception.value, wrong)
        self.assertEqual(f.rows, ((0, 3, False), (2, 5, True)))

    def test_never_later(self):
        seen = {True: 0, False: 0}
        for f, g in pairs(25, 400):
            for one, two in ((f, g), (f, f), (f & g, g), (g, f | g), (f + 1, f), (f, f + 1)):
                answer = all(one(t) <= two(t) for t in range(FAR))
                self.assertIs(one <= two, answer)
                seen[answer] += 1
        self.assertTrue(seen[True] > 50 and seen[False] > 50)

    def test_never_later_at_each_minute(self):
        """One minute with a greater value is enough."""
        for rows in many_rows(26, 60):
            f = Rising(rows)
            values = row_values(rows, 60)
            for at in range(20):
                if values[at] < values[at + 1]:
                    slow = list(values)
                    slow[at] += 1
                    g = Rising([(t, slow[t], False) for t in range(59)] + [(59, slow[59], True)])
                    self.assertIs(f <= g, True)
                    self.assertIs(g <= f, False)

    def test_maps_that_went_in_stay_as_they_were(self):
        for f, g in pairs(27, 60):
            before = (f.rows, g.rows)
            for result in (f | g, f & g, f >> g, f + 3, 3 + f, f <= g, f == g, f.levels(), str(f), f.back(9)):
                self.assertIsNotNone(result)
            self.assertEqual((f.rows, g.rows), before)


class Point8Levels(unittest.TestCase):
    def stretches(self, f, least):
        """All stretches with one value, minute by minute."""
        found = []
        first = 0
        for t in range(1, FAR):
            if f(t) != f(first):
                if t - first >= least:
                    found.append((first, t - 1))
                first = t
        return found

    def test_all_stretches(self):
        for f, _ in pairs(31, 500):
            self.assertEqual(f.levels(), self.stretches(f, 2), f.rows)
            for least in (2, 3, 4, 7, 100):
                self.assertEqual(f.levels(least=least), self.stretches(f, least), f.rows)

    def test_named_cases(self):
        slots = Rising([(0, 20, True), (46, 65, False), (61, 66, True)])
        self.assertEqual(slots.levels(), [(45, 60)])
        self.assertEqual(slots.levels(least=16), [(45, 60)])
        self.assertEqual(slots.levels(least=17), [])
        self.assertEqual(Rising.stay().levels(), [])
        self.assertEqual(Rising([(0, 5, True), (2, 6, True)]).levels(), [(1, 2)])
        self.assertEqual(Rising.since(4).levels(), [(0, 4)])

    def test_a_list_of_tuples(self):
        found = Rising.since(4).levels()
        self.assertIs(found.__class__, list)
        self.assertIs(found[0].__class__, tuple)

    def test_the_list_is_new(self):
        f = Rising.since(4)
        f.levels().append((9, 9))
        f.levels().clear()
        self.assertEqual(f.levels(), [(0, 4)])

    def test_refused(self):
        for wrong in (1, 0, -2, True, False, None, "2", 2.0):
            with self.assertRaises(BadNumber) as held:
                Rising.since(4).levels(least=wrong)
            self.assertEqual(held.exception.what, "least")
            self.assertIs(held.exception.value, wrong)

    def test_only_by_keyword(self):
        with self.assertRaises(TypeError):
            Rising.since(4).levels(2)


class Point9(unittest.TestCase):
    def test_values_and_backs(self):
        for f, _ in pairs(41, 100):
            for y in range(-1, 30):
                back = f.back(y)
                for t in range(35):
                    self.assertEqual(f(t) <= y, back is not None and t <= back)

    def test_backs_of_results(self):
        for f, g in pairs(42, 200):
            for y in range(-1, 40):
                one, two = f.back(y), g.back(y)
                behind = None if two is None else f.back(two)
                self.assertEqual((f >> g).back(y), behind)
                both = None if one is None or two is None else min(one, two)
                self.assertEqual((f | g).back(y), both)
                some = [x for x in (one, two) if x is not None]
                self.assertEqual((f & g).back(y), max(some) if some else None)

    def test_associative(self):
        for f, g, h in triples(43, 250):
            self.assertEqual((f | g) | h, f | (g | h))
            self.assertEqual((f & g) & h, f & (g & h))
            self.assertEqual((f >> g) >> h, f >> (g >> h))

    def test_distributive(self):
        for f, g, h in triples(44, 250):
            self.assertEqual(f >> (g | h), (f >> g) | (f >> h))
            self.assertEqual((g | h) >> f, (g >> f) | (h >> f))
            self.assertEqual(f >> (g & h), (f >> g) & (f >> h))
            self.assertEqual((g & h) >> f, (g >> f) & (h >> f))

    def test_stay_changes_nothing(self):
        for f, _ in pairs(45, 60):
            self.assertEqual(Rising.stay() >> f, f)
            self.assertEqual(f >> Rising.stay(), f)
            self.assertEqual(f | Rising.stay(), f)
            self.assertEqual(f & Rising.stay(), Rising.stay())
            self.assertEqual(f >> Rising.steady(4), f + 4)
            self.assertEqual(f >> Rising.since(9), f | Rising([(0, 9, False), (9, 9, True)]))


class Point44(unittest.TestCase):
    def test_named_cases(self):
        self.assertEqual(str(Rising.stay()), "0:0+")
        self.assertEqual(str(Rising.steady(7)), "0:7+")
        self.assertEqual(str(Rising([(0, 20, True), (46, 65, False), (61, 66, True)])), "0:20+ 46:65 61:66+")
        self.assertEqual(str(Rising([(0, 5, False), (1, 8, False), (2, 12, True)])), "0:5 1:8 2:12+")
        self.assertEqual(str(Rising.steady(999999999)), "0:999999999+")

    def test_words_tell_the_rows(self):
        for f, _ in pairs(46, 100):
            words = str(f).split(" ")
            rows = []
            for word in words:
                start, value = word.rstrip("+").split(":")
                rows.append((int(start), int(value), word.endswith("+")))
            self.assertEqual(tuple(rows), f.rows)
            self.assertFalse(any(word.endswith("++") for word in words))


if __name__ == "__main__":
    unittest.main()

"""Points 44 and 45: texts."""

import itertools
import random
import unittest

from days import example, made_ways, some_days
from laterways.changes import Changes, changed
from laterways.day import Day, Meeting, Person
from laterways.errors import BadName, BadNumber, BadRing, BadRows, BadText, BadWay
from laterways.moves import fixed
from laterways.rising import Rising
from laterways.slack import longer
from laterways.texts import read_day, read_rising, write_day
from laterways.ways import Ways
from laterways.whole import leaving
from models import many_rows
from test_putting import example_ways
from test_ways import WaysCase

TEXT = """places a b c
way a b 0:20+ 46:65 61:66+
way b a 0:7+
way c b 0:30+
meet last b 0 200 10
meet both b 70 90 15
meet first a 20 25 30
person ann a 5 first both last
person bob c 50 both
"""

WRONG_NUMBERS = ["", "01", "00", "-1", "+1", "1.0", "1_0", "x", "0x1", "1a", "1 ", "None"]


class TextsCase(WaysCase):
    def bad_text(self, line, call):
        with self.assertRaises(BadText) as held:
            call()
        self.assertEqual(held.exception.line, line)
        self.assertIs(held.exception.line.__class__, int)

    def bad_rows(self, place, call):
        with self.assertRaises(BadRows) as held:
            call()
        self.assertEqual(held.exception.place, place)


class MapTexts(TextsCase):
    def test_str(self):
        self.assertEqual(str(Rising.stay()), "0:0+")
        self.assertEqual(str(Rising.since(7)), "0:7 8:8+")
        self.assertEqual(str(Rising([(0, 20, True), (46, 65, False), (61, 66, True)])), "0:20+ 46:65 61:66+")
        self.assertEqual(str(Rising.steady(999999999)), "0:999999999+")

    def test_rows_word_by_word(self):
        for rows in many_rows(441, 200):
            f = Rising(rows)
            words = [f"{start}:{value}" + ("+" if grows else "") for start, value, grows in f.rows]
            self.assertEqual(str(f), " ".join(words))

    def test_read_back(self):
        for rows in many_rows(442, 300):
            f = Rising(rows)
            self.assertIs(read_rising(str(f)).__class__, Rising)
            self.assertEqual(read_rising(str(f)), f)
            self.assertEqual(read_rising(str(f)).rows, f.rows)

    def test_rows_that_are_not_the_shortest(self):
        for rows in many_rows(443, 300):
            words = [f"{start}:{value}" + ("+" if grows else "") for start, value, grows in rows]
            self.assertEqual(read_rising(" ".join(words)), Rising(rows))
        self.assertEqual(str(read_rising("0:0+ 1:1+ 5:5 6:6+")), "0:0+")

    def test_nine_digits(self):
        self.assertEqual(read_rising("0:123456789+"), Rising.steady(123456789))
        self.assertEqual(read_rising("0:0+ 999999999:999999999+"), Rising.stay())
        for text in ("0:1234567890+", "0:1000000000+", "0:0+ 1234567890:1234567890+", "0:0+ 1000000000:5+"):
            self.bad_text(1, lambda: read_rising(text))

    def test_other_forms(self):
        for text in (
            "", " ", "0:5+ ", " 0:5+", "0:5+  9:14+", "0:5+ 9:14+ ", "0", "5+", "0:", ":5+", ":", "+", "0:+", "0+:5",
            "0:5++", "0:+5", "+0:5+", "0:5 +", "0 :5+", "0: 5+", "0:5:6+", "0:5+:6", "0::5+", "0:5-", "0:-5+", "-0:5+",
            "00:5+", "0:05+", "0:00+", "00:0+", "0:5+\n", "\n0:5+", "0:5+\n9:14+", "\n", "0:5+,9:14+", "0;5+", "0.5+",
            "a:5+", "0:b+", "0:5+ 9", "0:5+ 9:x+", "0:5+ x", "0:5+ 09:14+", "0:5+ 9:014+", "0:5p", "zero:five+",
            "0:5 9:14+x",
        ):
            self.bad_text(1, lambda: read_rising(text))
        for wrong in WRONG_NUMBERS:
            for text in (f"{wrong}:5+", f"0:{wrong}+", f"0:5+ {wrong}:20+", f"0:5+ 9:{wrong}", f"0:5+ {wrong} 9:14+"):
                self.bad_text(1, lambda: read_rising(text))

    def test_then_the_rows(self):
        for text, place in (
            ("1:5+", 0), ("0:5", 0), ("0:5+ 0:7+", 1), ("0:5+ 9:12+", 1), ("0:5+ 9:8+", 1), ("0:5+ 9:14", 1),
            ("0:5 9:14+", 1), ("5:3+", 0), ("0:5+ 9:14+ 8:20+", 2), ("0:0+ 5:9 8:9 12:12+", 3),
        ):
            self.bad_rows(place, lambda: read_rising(text))
        self.assertEqual(read_rising("0:5+ 9:13+")(9), 13)

    def test_the_form_comes_first(self):
        for text in ("1:5+ x", "9:5 0:05+", "0:5+ 0:7+ 0:8++", "7:1 "):
            self.bad_text(1, lambda: read_rising(text))


class WriteDay(TextsCase):
    def test_example(self):
        self.assertEqual(write_day(example_ways(), example()), TEXT)

    def test_ways_in_the_order_of_the_places(self):
        ways = Ways("c", "a", "b")
        for start, end in ("ba", "bc", "ab", "ca", "cb"):
            ways[start, end] = Rising.steady(2)
        text = write_day(ways, Day(ways, [], []))
        self.assertEqual(text.split("\n"), [
            "places c a b", "way c a 0:2+", "way c b 0:2+", "way a b 0:2+", "way b c 0:2+", "way b a 0:2+", "",
        ])

    def test_nothing_but_places(self):
        self.assertEqual(write_day(Ways("x"), Day(Ways("x"), [], [])), "places x\n")
        day = Day(Ways("x"), [], [Person("ann", "x", 0)])
        self.assertEqual(write_day(Ways("x"), day), "places x\nperson ann x 0\n")

    def test_a_changed_day(self):
        """Delays of legs do not stand in the text; a meeting may be longer than one that is read."""
        day = changed(longer(example(), 9), Changes({}, {"first": 600}, 1), ["first"])
        text = write_day(example_ways(), fixed(leaving(day, "bob", 2880), "last", 7))
        right = TEXT.replace("25 30", "25 630").replace("c 50", "c 2880").replace("last b 0 200", "last b 7 7")
        self.assertEqual(text, right)
        self.bad_number("length", 630, lambda: read_day(text))

    def test_what_was_passed_stays(self):
        ways, day = example_ways(), example()
        write_day(ways, day)
        self.assertEqual((ways, day), (example_ways(), example()))


class ReadDay(TextsCase):
    def check_back(self, ways, day):
        text = write_day(ways, day)
        found = read_day(text)
        self.assertIs(found.__class__, tuple)
        self.assertEqual([part.__class__ for part in found], [Ways, Day])
        self.assertEqual(found, (ways, day))
        self.assertEqual(write_day(*found), text)

    def test_example(self):
        self.assertEqual(read_day(TEXT), (example_ways(), example()))
        ways, day = read_day(TEXT)
        self.assertEqual(day.order(), example().order())

    def test_many_days(self):
        for day, parts in some_days(451, 150):
            self.check_back(made_ways(parts[0]), day)

    def test_without_parts(self):
        ways = Ways("a", "b")
        self.check_back(ways, Day(ways, [], []))
        self.check_back(ways, Day(ways, [Meeting("one", "a", 0, 2880, 600)], []))
        self.check_back(ways, Day(ways, [], [Person("ann", "b", 2880)]))
        ways["a", "b"] = Rising.steady(999999999)
        self.check_back(ways, Day(ways, [Meeting("abcdefgh", "b", 2880, 2880, 0)], [Person("ann", "a", 0, "abcdefgh")]))

    def test_most_of_all(self):
        ways = Ways(*"abcdef")
        for pair in itertools.permutations("abcdef", 2):
            ways[pair] = Rising.steady(7)
        meetings = [Meeting("m" + name, name, 5, 700, 9) for name in "abcdef"]
        meetings += [Meeting("n" + name, name, 5, 700, 9) for name in "abcd"]
        names = [meeting.name for meeting in meetings]
        self.check_back(ways, Day(ways, meetings, [Person(name, "a", 8, *names) for name in "wxyz"]))

    def test_lines_of_ways_in_another_order(self):
        lines = TEXT.split("\n")
        text = "\n".join([lines[0]] + lines[3:0:-1] + lines[4:])
        self.assertEqual(read_day(text), (example_ways(), example()))

    def test_a_way_that_is_told_again(self):
        lines = TEXT.split("\n")
        text = "\n".join([lines[0], "way b a 0:99+", "way a b 0:1+"] + lines[1:])
        self.assertEqual(read_day(text), (example_ways(), example()))

    def test_rows_of_maps_that_are_not_the_shortest(self):
        text = TEXT.replace("0:7+", "0:7+ 3:10 4:11+ 9:16+")
        self.assertEqual(read_day(text), (example_ways(), example()))

    def test_each_text_gives_new_objects(self):
        one, two = read_day(TEXT), read_day(TEXT)
        one[0]["a", "c"] = Rising.steady(1)
        self.assertEqual(two, (example_ways(), example()))


def changed_line(number, line):
    """The example with another line there."""
    lines = TEXT.split("\n")
    lines[number - 1] = line
    return "\n".join(lines)


def line_of(number):
    return TEXT.split("\n")[number - 1]


class WrongTexts(TextsCase):
    def test_an_empty_text(self):
        self.bad_text(1, lambda: read_day(""))
        self.bad_text(1, lambda: read_day("\n"))
        self.bad_text(1, lambda: read_day(" \n"))

    def test_no_newline_at_the_end(self):
        self.bad_text(9, lambda: read_day(TEXT[:-1]))
        self.bad_text(1, lambda: read_day("places a"))
        self.bad_text(10, lambda: read_day(TEXT + "person cy a 5"))
        self.bad_text(10, lambda: read_day(TEXT + " "))
        self.bad_text(2, lambda: read_day("places a\nx"))

    def test_empty_lines(self):
        lines = TEXT.split("\n")
        for place in range(9):
            self.bad_text(place + 1, lambda: read_day("\n".join(lines[:place] + [""] + lines[place:])))
        self.bad_text(10, lambda: read_day(TEXT + "\n"))

    def test_empty_words(self):
        for number in range(1, 10):
            line = line_of(number)
            self.bad_text(number, lambda: read_day(changed_line(number, " " + line)))
            self.bad_text(number, lambda: read_day(changed_line(number, line + " ")))
            for at, sign in enumerate(line):
                if sign == " ":
                    self.bad_text(number, lambda: read_day(changed_line(number, line[:at] + " " + line[at:])))

    def test_wrong_forms(self):
        wrong = {
            1: ["places", "place a b c", "Places a b c", "a b c", "places:a b c"],
            2: [
                "way", "way a", "way a b", "way a b ", "way a b 0:5+ x", "way a b 00:5+", "way a b 0:1234567890+",
                "way a b 0:5+ 9", "way a 0:5+", "ways a b 0:5+", "way a b 0:5++", "way a b c 0:5+", "way a b 0 5+",
            ],
            5: [
                "meet", "meet x", "meet x b", "meet x b 0", "meet x b 0 200", "meet x b 0 200 10 1", "meet x 0 200 10",
                "meeting x b 0 200 10", "Meet x b 0 200 10",
            ],
            8: [
                "person", "person ann", "person ann a", "person ann first both last", "people ann a 5",
                "person ann 5 first",
            ],
        }
        for number, lines in wrong.items():
            for line in lines:
                self.bad_text(number, lambda: read_day(changed_line(number, line)))
        self.bad_rows(0, lambda: read_day(changed_line(2, "way a b 0:5")))
        self.bad_text(9, lambda: read_day(changed_line(9, "bob c 50 both")))

    def test_wrong_numbers(self):
        for wrong in WRONG_NUMBERS + ["10000", "00000", "123456789"]:
            for parts in ((wrong, "200", "10"), ("0", wrong, "10"), ("0", "200", wrong), (wrong, wrong, wrong)):
                self.bad_text(6, lambda: read_day(changed_line(6, "meet both b " + " ".join(parts))))
            self.bad_text(8, lambda: read_day(changed_line(8, f"person ann a {wrong} first both last")))
            self.bad_text(9, lambda: read_day(changed_line(9, f"person bob c {wrong}")))

    def test_wrong_places(self):
        """Each kind of line behind and before each other one."""
        kinds = {"places": "places a b c", "way": "way a b 0:5+", "meet": "meet one a 0 9 1", "person": "person cy a 5"}
        order = list(kinds)
        for length in (1, 2, 3):
            for row in itertools.product(order, repeat=length):
                wrong = None
                for at in reversed(range(length)):
                    here = order.index(row[at])
                    good = here == 0 if at == 0 else here >= max(1, order.index(row[at - 1]))
                    wrong = wrong if good else at + 1
                text = "".join(kinds[kind] + "\n" for kind in row)
                if wrong is not None:
                    self.bad_text(wrong, lambda: read_day(text))
                elif row.count("meet") < 2 and row.count("person") < 2:
                    self.assertEqual(len(read_day(text)[1]), row.count("meet"))

    def test_several_wrong_lines(self):
        lines = TEXT.split("\n")
        for one, two in itertools.combinations(range(9), 2):
            text = "\n".join(["x" if at in (one, two) else line for at, line in enumerate(lines)])
            self.bad_text(one + 1, lambda: read_day(text))
            self.bad_text(one + 1, lambda: read_day(text[:-1]))

    def test_a_wrong_line_comes_before_wrong_parts(self):
        for number in range(1, 10):
            text = changed_line(number, "places B" if number == 1 else "x")
            if number > 1:
                self.bad_text(number, lambda: read_day(text.replace("places a", "places B")))
            self.bad_text(9, lambda: read_day(changed_line(9, "person").replace("places a", "places B")))


class WrongParts(TextsCase):
    def test_places(self):
        self.bad_number("places", 7, lambda: read_day("places a b c d e f g\n"))
        self.bad_name("B", lambda: read_day("places a B\n"))
        self.bad_name("a", lambda: read_day("places a b a\n"))
        self.bad_name("abcdefghi", lambda: read_day("places abcdefghi\nway a b 5:5+\n"))

    def test_a_way_line_has_its_map_first(self):
        start = "places a b\n"
        self.bad_rows(0, lambda: read_day(start + "way a x 5:5+\n"))
        self.bad_rows(1, lambda: read_day(start + "way x x 0:5+ 0:6+\n"))
        self.bad_name("x", lambda: read_day(start + "way x y 0:5+\n"))
        self.bad_name("y", lambda: read_day(start + "way a y 0:5+\n"))
        self.bad_name("0:5+", lambda: read_day(start + "way a 0:5+ 0:5+\n"))
        self.bad_way("a", "a", lambda: read_day(start + "way a a 0:5+\n"))

    def test_meetings_and_people(self):
        start = "places a b\n"
        for line, what, value in (
            ("meet One zz 2881 1 1", "name", "One"), ("meet one A 2881 1 1", "name", "A"),
            ("meet one zz 9999 1 1", "opens", 9999), ("meet one zz 9 8 601", "latest", 8),
            ("meet one zz 9 2881 601", "latest", 2881), ("meet one zz 9 9 601", "length", 601),
            ("person Ann A 2881 x x", "name", "Ann"), ("person ann A 2881 x x", "name", "A"),
            ("person ann zz 2881 x x", "leaves", 2881), ("person ann zz 5 x x", "name", "x"),
            ("person ann zz 5 x X x", "name", "X"),
        ):
            if what == "name":
                self.bad_name(value, lambda: read_day(start + line + "\n"))
            else:
                self.bad_number(what, value, lambda: read_day(start + line + "\n"))

    def test_in_the_order_of_the_lines(self):
        wrong = [
            ("places a A", BadName), ("way a a 1:1+", BadRows), ("way a a 0:1+", BadWay),
            ("meet one b 5 4 601", BadNumber), ("meet X b 5 4 601", BadName),
            ("person ann a 2881", BadNumber), ("person ann A 2881", BadName),
        ]
        kinds = ["places", "way", "meet", "person"]
        for (one, error), (two, _) in itertools.combinations(wrong, 2):
            first, second = kinds.index(one.split()[0]), kinds.index(two.split()[0])
            if first <= second and second > 0:
                lines = ([] if first == 0 else ["places a b"]) + [one, two]
                with self.assertRaises(error) as held:
                    read_day("\n".join(lines) + "\n")
                self.assertIs(held.exception.__class__, error)

    def test_then_the_errors_of_the_day(self):
        start = "places a b\nway a b 0:5+\n"
        self.bad_name("one", lambda: read_day(start + "meet one a 0 9 1\nmeet one b 0 9 1\n"))
        self.bad_name("zz", lambda: read_day(start + "meet one zz 0 9 1\n"))
        self.bad_name("ann", lambda: read_day(start + "person ann a 5\nperson ann a 5\n"))
        self.bad_name("zz", lambda: read_day(start + "person ann zz 5\n"))
        self.bad_name("none", lambda: read_day(start + "person ann a 5 none\n"))
        self.bad_way("b", "a", lambda: read_day(start + "meet one a 0 9 1\nperson ann b 5 one\n"))
        meets = "".join(f"meet m{letter} a 0 9 1\n" for letter in "abcdefghijk")
        self.bad_number("meetings", 11, lambda: read_day(start + meets))
        people = "".join(f"person {letter} a 5\n" for letter in "abcde")
        self.bad_number("people", 5, lambda: read_day(start + people))
        with self.assertRaises(BadRing):
            read_day(start + "meet one a 0 9 1\nmeet two a 0 9 1\nperson ann a 5 one two\nperson bob a 5 two one\n")

    def test_parts_come_before_the_day(self):
        """The first meeting is at no place, but the last line has a wrong number."""
        text = "places a b\nmeet one zz 0 9 1\nperson ann a 2881\n"
        self.bad_number("leaves", 2881, lambda: read_day(text))


class Drawn(TextsCase):
    def test_one_sign_changed(self):
        """A text with another sign is read by the same rules, or its line is told."""
        rng = random.Random(452)
        seen = {}
        for _ in range(2000):
            at = rng.randrange(len(TEXT))
            text = TEXT[:at] + rng.choice(["", " ", "\n", "0", "7", "x", "B", ":", "+"]) + TEXT[at + rng.randint(0, 1):]
            line = TEXT[:at].count("\n") + 1
            try:
                ways, day = read_day(text)
                self.assertEqual(read_day(write_day(ways, day)), (ways, day))
                kind = "taken"
            except BadText as error:
                self.assertIn(error.line - line, (0, 1))
                kind = "line"
            except (BadName, BadNumber, BadRows, BadWay):
                kind = "part"
            seen[kind] = seen.get(kind, 0) + 1
        self.assertTrue(all(seen[kind] > 100 for kind in ("taken", "line", "part")), seen)


if __name__ == "__main__":
    unittest.main()

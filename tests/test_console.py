"""Points 46 and 47: the console."""

import random
import unittest
from unittest import mock

from days import example, made_ways, some_days
from laterways.calendar import Calendar
from laterways.chains import chain
from laterways.console import console
from laterways.day import Day, Meeting, Person
from laterways.earliest import earliest, late
from laterways.errors import BadName, BadNumber, BadRing, BadWay, NotKept
from laterways.moves import fixed, moves
from laterways.rising import Rising
from laterways.slack import longer, slack_of_all
from laterways.ways import Ways
from laterways.whole import leaving
from test_putting import example_ways

WORDS = ["when", "moves", "late", "why", "slack", "move", "leave", "delay", "drop", "undo", "table"]
RIGHT = [
    "when first", "moves first", "late", "why first", "slack", "move first 20", "leave ann 5", "delay ann first 0",
    "drop first", "undo", "table",
]
WRONG_NUMBERS = ["-1", "+5", "05", "00", "10000", "99999", "5x", "x", "1.5", "1_0", "0x5", "None", "5,"]


def asked(*lines):
    """The answers over the example."""
    return console(example_ways(), example(), list(lines))


def table_text(day):
    """The table, column by column."""
    starts = earliest(day)
    rows = []
    for meeting in day.meetings:
        number = str(starts[meeting.name])
        row = meeting.name + " " * (9 - len(meeting.name)) + " " * (5 - len(number)) + number
        rows.append(row + "*" * (meeting.name in late(day)))
    return "\n".join(rows)


class Commands(unittest.TestCase):
    def test_when(self):
        self.assertEqual(asked("when first", "when both", "when last"), ["20", "80", "95"])

    def test_moves(self):
        self.assertEqual(asked("moves first", "moves both", "moves last"), ["20 to 25", "80 to 90", "95 to 200"])
        self.assertEqual(asked("move first 4", "moves first", "moves last"), ["done", "none", "none"])
        self.assertEqual(asked("move first 21", "moves first"), ["done", "21 to 21"])

    def test_late(self):
        self.assertEqual(asked("late"), ["none"])
        lines = ["move first 4", "late", "move both 7", "move last 0", "late", "move first 5", "late"]
        answers = ["done", "first", "done", "done", "last both first", "done", "last both"]
        self.assertEqual(asked(*lines), answers)

    def test_why(self):
        self.assertEqual(asked("why first"), ["opens,first"])
        self.assertEqual(asked("why both"), ["leaves,bob bob,both"])
        self.assertEqual(asked("why last"), ["leaves,bob bob,both ann,last"])
        self.assertEqual(asked("move first 70", "why last"), ["done", "opens,first ann,both ann,last"])

    def test_slack(self):
        self.assertEqual(asked("slack"), [str(slack_of_all(example()))])
        self.assertEqual(asked("move first 4", "slack"), ["done", "not kept"])
        day = Day(Ways("a"), [Meeting("one", "a", 5, 9, 1)], [Person("ann", "a", 5)])
        self.assertEqual(console(Ways("a"), day, ["slack"]), ["none"])
        self.assertEqual(asked("drop first", "drop both", "drop last", "slack"), ["done", "done", "done", "none"])

    def test_deeds(self):
        self.assertEqual(asked("move first 25", "when first", "undo", "when first"), ["done", "25", "done", "20"])
        self.assertEqual(asked("leave bob 0", "when both", "undo", "when both"), ["done", "70", "done", "80"])
        self.assertEqual(asked("delay ann last 9", "when last", "undo", "when last"), ["done", "104", "done", "95"])
        self.assertEqual(asked("drop both", "when last", "undo", "when last"), ["done", "65", "done", "95"])
        self.assertEqual(asked("drop both", "when both", "undo", "when both"), ["done", "name", "done", "80"])

    def test_table(self):
        self.assertEqual(asked("table"), ["last        95\nboth        80\nfirst       20"])
        lines = ["move both 7", "leave bob 2880", "delay ann last 9999", "table"]
        self.assertEqual(asked(*lines)[-1], "last     12924*\nboth      2910*\nfirst       20")
        self.assertEqual(asked("drop first", "drop both", "drop last", "table")[-1], "")

    def test_table_with_long_names_and_numbers(self):
        meetings = [Meeting("abcdefgh", "a", 0, 9, 5), Meeting("b", "a", 0, 2880, 5), Meeting("cc", "a", 0, 9, 5)]
        people = [Person("ann", "a", 0, "abcdefgh", "b")]
        day = longer(Day(Ways("a"), meetings, people), 123456, ("ann", "b"))
        self.assertEqual(console(Ways("a"), day, ["table"]), ["abcdefgh     0\nb        123461*\ncc           0"])
        day = longer(day, 9, ("ann", "abcdefgh"))
        self.assertEqual(console(Ways("a"), day, ["table"]), ["abcdefgh     9\nb        123470*\ncc           0"])
        day = longer(day, 1, ("ann", "abcdefgh"))
        self.assertEqual(console(Ways("a"), day, ["table"]), ["abcdefgh    10*\nb        123471*\ncc           0"])

    def test_a_list_of_strings(self):
        answers = console(example_ways(), example(), [])
        self.assertEqual((answers, answers.__class__), ([], list))
        answers = asked(*RIGHT)
        self.assertEqual([answer.__class__ for answer in answers], [str] * len(RIGHT))
        self.assertEqual(console(example_ways(), example(), tuple(RIGHT)), answers)

    def test_what_was_passed_stays(self):
        ways, day, lines = example_ways(), example(), list(RIGHT)
        first = console(ways, day, lines)
        self.assertEqual((ways, day, lines), (example_ways(), example(), RIGHT))
        self.assertEqual(console(ways, day, lines), first)


class WrongLines(unittest.TestCase):
    def check(self, answer, line, *before):
        """The line gets the answer, and nothing has changed."""
        questions = ["table", "slack", "why last", "moves both"]
        lines = list(before) + questions + [line] + questions + ["undo"] * (len(before) + 1)
        answers = asked(*lines)
        at = len(before)
        self.assertEqual(answers[:at], ["done"] * at)
        self.assertEqual(answers[at + 4], answer, line)
        self.assertEqual(answers[at:at + 4], answers[at + 5:at + 9])
        self.assertEqual(answers[at + 9:], ["done"] * at + ["nothing"])

    def test_unknown(self):
        for line in (
            "", " ", "  ", " when first", "When first", "whens first", "when,first", "1", "lengthen first 5",
            "put first",
            "load", "day", "do_all", "none", "done", "unknown", "form", "latee", "WHEN", "when\nfirst", "x y z",
        ):
            self.check("unknown", line)

    def test_wrong_numbers_of_words(self):
        for line in RIGHT:
            self.check("form", line + " more")
            self.check("form", line + " 5")
            self.check("form", line + " ")
            words = line.split(" ")
            for many in range(1, len(words)):
                self.check("form", " ".join(words[:many]))

    def test_empty_words(self):
        for line in RIGHT:
            for at, sign in enumerate(line):
                if sign == " ":
                    self.check("form", line[:at] + " " + line[at:])
        for line in ("move first ", "move  20", "delay ann  5", "when ", "late ", "undo ", "table ", "late  "):
            self.check("form", line)

    def test_wrong_numbers(self):
        for wrong in WRONG_NUMBERS:
            self.check("form", f"move first {wrong}")
            self.check("form", f"leave ann {wrong}")
            self.check("form", f"delay ann first {wrong}")
            self.check("form", f"move none {wrong}")
            self.check("form", f"delay none none {wrong}")

    def test_names(self):
        for wrong in ("none", "ann", "First", "5", "abcdefghi", "x-y"):
            self.check("name", f"when {wrong}")
            self.check("name", f"moves {wrong}")
            self.check("name", f"why {wrong}")
            self.check("name", f"move {wrong} 20")
            self.check("name", f"move {wrong} 2881")
            self.check("name", f"drop {wrong}")
            self.check("name", f"delay ann {wrong} 5")
        for wrong in ("none", "first", "Ann", "5"):
            self.check("name", f"leave {wrong} 20")
            self.check("name", f"leave {wrong} 9999")
            self.check("name", f"delay {wrong} first 5")
        self.check("name", "delay bob first 5")

    def test_numbers(self):
        for number in ("2881", "9999"):
            self.check("number", f"move first {number}")
            self.check("number", f"leave ann {number}")
        self.check("name", "when both", "drop both")
        self.assertEqual(asked("move first 2880", "leave ann 2880", "delay ann first 9999"), ["done"] * 3)
        self.assertEqual(asked("move first 0", "leave ann 0", "delay ann first 0"), ["done"] * 3)

    def test_way(self):
        ways = Ways("a", "b")
        meetings = [Meeting("one", "a", 0, 900, 5), Meeting("two", "b", 0, 900, 5), Meeting("three", "a", 0, 900, 5)]
        ways["a", "b"] = ways["b", "a"] = Rising.steady(3)
        day = Day(ways, meetings, [Person("ann", "b", 0, "one", "two", "three")])
        less = Ways("a", "b")
        less["a", "b"] = Rising.steady(4)
        lines = ["drop one", "drop three", "drop one", "drop two", "drop one", "table", "undo", "undo", "undo", "undo"]
        answers = ["done", "done", "name", "done", "name", "", "done", "done", "done", "nothing"]
        self.assertEqual(console(less, day, lines), answers)
        day = Day(ways, meetings, [Person("ann", "b", 0, "two", "one", "three")])
        self.assertEqual(console(Ways("a", "b"), day, ["drop two", "drop one", "drop three"]), ["way", "way", "done"])
        self.assertEqual(console(Ways("a"), day, ["drop two", "drop three"]), ["name", "done"])

    def test_nothing(self):
        self.assertEqual(asked("undo"), ["nothing"])
        self.assertEqual(asked("undo", "move first 20", "undo", "undo"), ["nothing", "done", "done", "nothing"])
        self.check("form", "undo now")

    def test_ring(self):
        """No command makes a ring today; if its part told one, the answer would be this word."""
        with mock.patch.object(Calendar, "drop", side_effect=BadRing(["first", "both"])):
            self.assertEqual(asked("drop first", "drop first now", "when first"), ["ring", "form", "20"])

    def test_first_of_several(self):
        self.assertEqual(asked("mov first 99999", "move first  99999", "move none 2881"), ["unknown", "form", "name"])


class Beside(unittest.TestCase):
    def right_answer(self, days, calendar, line):
        """The answer by the functions over the day that is kept beside; it changes days as the line says."""
        day, words = days[-1], line.split(" ")
        try:
            if words[0] == "when":
                return str(earliest(day)[day[words[1]].name])
            if words[0] == "moves":
                found = moves(day, words[1])
                return "none" if found is None else str(found[0]) + " to " + str(found[1])
            if words[0] == "late":
                return " ".join(late(day)) if late(day) else "none"
            if words[0] == "why":
                return " ".join(first + "," + second for first, second in chain(day, words[1]))
            if words[0] == "slack":
                found = slack_of_all(day)
                return "none" if found is None else str(found)
            if words[0] == "table":
                return table_text(day)
            if words[0] == "undo":
                if len(days) == 1:
                    return "nothing"
                days.pop()
                return "done"
            if words[0] == "move":
                made = fixed(day, words[1], int(words[2]))
            elif words[0] == "leave":
                made = leaving(day, words[1], int(words[2]))
            elif words[0] == "delay":
                made = longer(day, int(words[3]), (words[1], words[2]))
            else:
                calendar.load(day)
                calendar.drop(words[1])
                made = calendar.day
        except BadName:
            return "name"
        except BadNumber:
            return "number"
        except BadWay:
            return "way"
        except NotKept:
            return "not kept"
        days.append(made)
        return "done"

    def test_many_lines(self):
        rng = random.Random(461)
        seen = {}
        for day, parts in some_days(462, 60, wide=90):
            ways = made_ways(parts[0])
            names = [meeting.name for meeting in day.meetings] + ["none"]
            people = [person.name for person in day.people] + ["zed"]
            days, lines, answers = [day], [], []
            calendar = Calendar(ways, day)
            for _ in range(60):
                word = rng.choice(WORDS if rng.random() < 0.9 else ["undo", "undo", "undo"])
                name, person = rng.choice(names), rng.choice(people)
                number = rng.choice(["0", "7", "33", "2881", "2880"])
                line = {
                    "move": f"move {name} {number}", "leave": f"leave {person} {number}",
                    "delay": f"delay {person} {name} {number}", "late": "late", "slack": "slack", "undo": "undo",
                    "table": "table",
                }.get(word, f"{word} {name}")
                lines.append(line)
                answers.append(self.right_answer(days, calendar, line))
                kind = answers[-1] if answers[-1].isalpha() else "text"
                seen[word, kind] = seen.get((word, kind), 0) + 1
            self.assertEqual(console(ways, day, lines), answers)
        for key in (
            ("moves", "none"), ("late", "none"), ("move", "done"), ("drop", "done"), ("undo", "nothing"),
            ("slack", "none"), ("moves", "text"), ("slack", "text"), ("move", "number"), ("delay", "name"),
            ("why", "text"), ("table", "text"),
        ):
            self.assertTrue(seen.get(key, 0) > 3, (key, seen))

    def test_right_words_with_wrong_forms(self):
        """Lines of drawn words: the first word that fits."""
        rng = random.Random(463)
        seen = {}
        for _ in range(3000):
            line = " ".join(rng.choice(WORDS + ["first", "ann", "5", "05", ""]) for _ in range(rng.randint(1, 4)))
            words = line.split(" ")
            rest = words[1:]
            if words[0] not in WORDS:
                right = ["unknown"]
            else:
                shapes = {
                    "late": "", "slack": "", "undo": "", "table": "", "move": "wn", "leave": "wn", "delay": "wwn",
                }
                shape = shapes.get(words[0], "w")
                good = len(rest) == len(shape) and "" not in rest
                good = good and all(sign == "w" or word == "5" for sign, word in zip(shape, rest))
                right = ["form"] if not good else None
            found = asked(line)
            if right is None:
                self.assertNotIn(found[0], ("unknown", "form"), line)
            else:
                self.assertEqual(found, right, line)
            kind = "taken" if right is None else right[0]
            seen[kind] = seen.get(kind, 0) + 1
        self.assertTrue(all(seen[kind] > 100 for kind in ("unknown", "form", "taken")), seen)


if __name__ == "__main__":
    unittest.main()

"""Days for the tests, drawn at random, together with the plain values that they are made of."""

import itertools
import random

from laterways.day import Day, Meeting, Person
from laterways.errors import BadRing
from laterways.rising import Rising
from laterways.slots import by_slots
from laterways.ways import Ways
from models import some_rows

PLACES = "abc"


def some_parts(rng, many, wide=40, persons="abcdefgh"):
    """Told ways, meetings and people as plain values."""
    roads = {}
    for pair in itertools.permutations(PLACES, 2):
        if rng.random() < 0.5:
            roads[pair] = Rising(some_rows(rng))
        else:
            roads[pair] = by_slots(rng.randint(1, 9), [rng.randint(0, 12) for _ in range(rng.randint(1, 5))])
    meetings = []
    for name in rng.sample("uvwxyz", rng.randint(1, many)):
        opens = rng.randint(0, wide)
        meetings.append((name, rng.choice(PLACES), opens, opens + rng.randint(0, wide), rng.randint(0, 9)))
    people = []
    for person in rng.sample(persons, rng.randint(0, 4)):
        row = rng.sample([meeting[0] for meeting in meetings], rng.randint(0, min(4, len(meetings))))
        people.append((person, rng.choice(PLACES), rng.randint(0, 20), row))
    return roads, meetings, people


def made_ways(roads):
    ways = Ways(*PLACES)
    for pair, road in roads.items():
        ways[pair] = road
    return ways


def made_day(roads, meetings, people):
    ways = made_ways(roads)
    rows = [Person(name, home, leaves, *row) for name, home, leaves, row in people]
    return Day(ways, [Meeting(*meeting) for meeting in meetings], rows)


def some_days(seed, many, most=6, wide=40, persons="abcdefgh"):
    """Days without rings, with their parts."""
    rng = random.Random(seed)
    found = []
    while len(found) < many:
        parts = some_parts(rng, most, wide, persons)
        try:
            found.append((made_day(*parts), parts))
        except BadRing:
            pass
    return found


def example():
    """Ann and Bob come to the second meeting from two sides."""
    ways = Ways("a", "b", "c")
    ways["a", "b"] = by_slots(60, [20, 5])
    ways["c", "b"] = Rising.steady(30)
    meetings = [
        Meeting("last", "b", 0, 200, 10), Meeting("both", "b", 70, 90, 15), Meeting("first", "a", 20, 25, 30),
    ]
    people = [Person("ann", "a", 5, "first", "both", "last"), Person("bob", "c", 50, "both")]
    return Day(ways, meetings, people)

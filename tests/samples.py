"""Plans and values that several tests use."""

import random

from firstbore import errors
from firstbore.plans import Plan

LINES = [
    "person ann 2 3 0 9",
    "person bob 1 1 -",
    "person cyd 2 2 4 9",
    "person dan 1 0 -",
    "meet 3 ann bob",
    "meet 5 bob cyd",
    "meet 6 cyd dan",
    "meet 8 bob dan",
]
PEOPLE = (("ann", 2, 3, (0, 9)), ("bob", 1, 1, None), ("cyd", 2, 2, (4, 9)), ("dan", 1, 0, None))
MEETINGS = ((3, "ann", "bob"), (5, "bob", "cyd"), (6, "cyd", "dan"), (8, "bob", "dan"))
NAMES = ("ann", "bob", "cyd", "dan")


def example():
    """Return the plan of section 1 of the document."""
    return Plan(PEOPLE, MEETINGS)


def nested(kind, inmost):
    """Return a list or tuple that is nested eight deep."""
    value = kind([inmost])
    for step in range(7):
        value = kind([value])
    return value


def no_names():
    """Return values of all kinds none of which is a name of the example."""
    return [
        -1, 0, 1, 7, 10**18, True, False, None, "", "a", "eve", "Ann", "ANN", "anna", "ann ", " ann", "ann\n",
        "\u00e4nn", "0", "annbob", example(), errors.InvalidPlan("ann"), errors.NoName("ann"), errors.NoWorld(),
        [], (), [[]], ((),), ["ann"], ("ann",), [None], ("ann", 0), ["ann", 0], [("ann", 0)], (("ann", 0),),
        nested(list, "ann"), nested(tuple, "ann"), nested(list, None), nested(tuple, example()), [example()],
        [True, False, None, "ann", [1, (2, [3])]],
    ]


def no_sequences():
    """Return values of all kinds that are no sequences."""
    return ["ann"] + [value for value in no_names() if not isinstance(value, (list, tuple))]


def random_plan(rng, most_people=6, most_meetings=14, most_day=12):
    """Return a small plan, with several meetings of one day and not in the order of days."""
    names = ["ann", "bob", "cyd", "dan", "eve", "fay", "gus", "hal"][:rng.randint(2, most_people)]
    rng.shuffle(names)
    people = []
    for name in names:
        first = rng.randint(0, most_day // 2)
        span = rng.choice([None, (first, rng.randint(first, most_day))])
        people.append((name, rng.choice([1, 1, 2, 3]), rng.randint(0, 4), span))
    meetings = []
    for number in range(rng.randint(0, most_meetings)):
        a, b = rng.sample(names, 2)
        meetings.append((rng.randint(0, most_day), a, b))
    return Plan(people, meetings)


def random_world(rng, plan):
    """Return some world of a plan, perhaps that of nobody."""
    firsts = [person for person in plan.people if person[3] is not None and rng.random() < 0.6]
    rng.shuffle(firsts)
    return [(name, rng.randint(*span)) for name, wait, show, span in firsts]


def cases(many, seed=1):
    """Return many pairs of a plan and one of its worlds, the same ones each time."""
    rng = random.Random(seed)
    plans = [random_plan(rng) for number in range(many)]
    return [(plan, random_world(rng, plan)) for plan in plans]

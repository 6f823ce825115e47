"""Plans, looks and values that several tests use, and what the words of the document make of them."""

import itertools
import random

from firstbore import errors
from firstbore.plans import Plan

LINES = [
    "person ann 2 3 0 9",
    "person bob 1 1 -",
    "person cyd 2 2 4 9",
    "person dan 1 0 -",
    "meet 3 ann bob",
    "meet 5 bob cyd",
    "meet 6 cyd dan",
    "meet 8 bob dan",
]
PEOPLE = (("ann", 2, 3, (0, 9)), ("bob", 1, 1, None), ("cyd", 2, 2, (4, 9)), ("dan", 1, 0, None))
MEETINGS = ((3, "ann", "bob"), (5, "bob", "cyd"), (6, "cyd", "dan"), (8, "bob", "dan"))
NAMES = ("ann", "bob", "cyd", "dan")
LOOKS = ((9, "dan", True),)
MORE = LOOKS + ((6, "ann", False),)
NONE_FITS = LOOKS + ((9, "dan", False),)
FAR = 10**18


def example():
    """Return the plan of section 1 of the document."""
    return Plan(PEOPLE, MEETINGS)


def nested(kind, inmost):
    """Return a list or tuple that is nested eight deep."""
    value = kind([inmost])
    for step in range(7):
        value = kind([value])
    return value


def no_names():
    """Return values of all kinds none of which is a name of the example."""
    return [
        -1, 0, 1, 7, 10**18, True, False, None, "", "a", "eve", "Ann", "ANN", "anna", "ann ", " ann", "ann\n",
        "\u00e4nn", "0", "annbob", example(), errors.InvalidPlan("ann"), errors.NoName("ann"), errors.NoWorld(),
        [], (), [[]], ((),), ["ann"], ("ann",), [None], ("ann", 0), ["ann", 0], [("ann", 0)], (("ann", 0),),
        nested(list, "ann"), nested(tuple, "ann"), nested(list, None), nested(tuple, example()), [example()],
        [True, False, None, "ann", [1, (2, [3])]],
    ]


def no_sequences():
    """Return values of all kinds that are no sequences."""
    return ["ann"] + [value for value in no_names() if not isinstance(value, (list, tuple))]


def random_plan(rng, most_people=6, most_meetings=14, most_day=12):
    """Return a small plan, with several meetings of one day and not in the order of days."""
    names = ["ann", "bob", "cyd", "dan", "eve", "fay", "gus", "hal"][:rng.randint(2, most_people)]
    rng.shuffle(names)
    people = []
    for name in names:
        first = rng.randint(0, most_day // 2)
        span = rng.choice([None, (first, rng.randint(first, most_day))])
        people.append((name, rng.choice([1, 1, 2, 3]), rng.randint(0, 4), span))
    meetings = []
    for number in range(rng.randint(0, most_meetings)):
        a, b = rng.sample(names, 2)
        meetings.append((rng.randint(0, most_day), a, b))
    return Plan(people, meetings)


def random_world(rng, plan):
    """Return some world of a plan, perhaps that of nobody."""
    firsts = [person for person in plan.people if person[3] is not None and rng.random() < 0.6]
    rng.shuffle(firsts)
    return [(name, rng.randint(*span)) for name, wait, show, span in firsts]


def cases(many, seed=1):
    """Return many pairs of a plan and one of its worlds, the same ones each time."""
    rng = random.Random(seed)
    plans = [random_plan(rng) for number in range(many)]
    return [(plan, random_world(rng, plan)) for plan in plans]


def expected_since(plan, world):
    """Follow the words of [7], meeting by meeting in any order, until nothing changes any more."""
    days = dict(world)
    waits = {name: wait for name, wait, show, span in plan.people}
    is_changed = True
    while is_changed:
        is_changed = False
        for day, a, b in plan.meetings:
            for giver, taker in ((a, b), (b, a)):
                if giver in days and days[giver] + waits[giver] <= day and days.get(taker, day + 1) > day:
                    days[taker] = day
                    is_changed = True
    return tuple(days.get(name) for name in plan.names)


def expected_broken(plan, looks, world):
    """Follow the words of [9]."""
    days = dict(zip(plan.names, expected_since(plan, world)))
    shows = {name: show for name, wait, show, span in plan.people}
    ats = []
    for at, (day, name, is_shown) in enumerate(looks):
        if (days[name] is not None and days[name] + shows[name] <= day) != is_shown:
            ats.append(at)
    return tuple(ats)


def worlds_of_days(plan, days_of):
    """Return all worlds whose days are among those that a dict has for each name with a span."""
    choices = []
    for name, wait, show, span in plan.people:
        if span is not None:
            choices.append([None] + [(name, day) for day in days_of[name]])
    return [tuple(pair for pair in pairs if pair is not None) for pairs in itertools.product(*choices)]


def all_worlds(plan):
    """Return all worlds of a plan."""
    spans = {person[0]: person[3] for person in plan.people if person[3] is not None}
    return worlds_of_days(plan, {name: range(first, last + 1) for name, (first, last) in spans.items()})


def tried_plan(rng):
    """Return a small plan whose worlds can be tried one by one: at most three spans of some days."""
    names = ["ann", "bob", "cyd", "dan", "eve"][:rng.randint(1, 5)]
    rng.shuffle(names)
    firsts = rng.sample(names, min(len(names), rng.randint(0, 3)))
    people = []
    for name in names:
        first = rng.randint(0, 7)
        span = (first, first + rng.randint(0, 4)) if name in firsts else None
        people.append((name, rng.choice([1, 1, 2, 3]), rng.randint(0, 3), span))
    meetings = []
    for number in range(rng.randint(0, 9) if len(names) > 1 else 0):
        a, b = rng.sample(names, 2)
        meetings.append((rng.randint(0, 10), a, b))
    return Plan(people, meetings)


def tried_looks(rng, plan, worlds, most_day=14):
    """Return some looks, mostly such that one of the worlds fits."""
    world = rng.choice(worlds)
    looks = []
    for number in range(rng.choice([0, 1, 1, 2, 2, 3, 4, 6])):
        day, name, is_shown = rng.randint(0, most_day), rng.choice(plan.names), rng.random() < 0.5
        if rng.random() < 0.9 and expected_broken(plan, [(day, name, is_shown)], world):
            is_shown = not is_shown
        looks.append((day, name, is_shown))
    return looks


def tried_cases(many, seed):
    """Return (plan, worlds, looks) for many small plans, the same ones each time; the worlds are all there are."""
    rng = random.Random(seed)
    rows = []
    for number in range(many):
        plan = tried_plan(rng)
        worlds = all_worlds(plan)
        rows = rows + [(plan, worlds, tried_looks(rng, plan, worlds)) for turn in range(3)]
    return rows


def brought_looks(rng, plan, world):
    """Return looks that show it, about when they first do, at some of those to whom a meeting brings it in a world."""
    looks = []
    for (name, wait, show, span), start in zip(plan.people, expected_since(plan, world)):
        if start is not None and dict(world).get(name) != start and rng.random() < 0.7:
            looks.append((start + show + rng.randint(0, 1), name, True))
    return looks


def telling_cases(many, seed):
    """Return more such rows, of plans with more meetings and looks that ask for more."""
    rng = random.Random(seed)
    rows = []
    while len(rows) < many:
        plan = tried_plan(rng)
        worlds = all_worlds(plan)
        if len(plan.meetings) >= 4 and len(worlds) >= 10:
            world = rng.choice([world for world in worlds if world != ()])
            negative = [look for look in tried_looks(rng, plan, [world]) if not look[2]]
            rows.append((plan, worlds, brought_looks(rng, plan, world) + negative[:2]))
    return rows


def fitting_days(plan, worlds, looks):
    """Return (world, days since when each person bears it) for each of the worlds that fits."""
    return [(world, expected_since(plan, world)) for world in worlds if not expected_broken(plan, looks, world)]


def wide_case(rng):
    """Return a plan with two spans of very many days, looks that mostly some world fits, and two days."""
    step = FAR // 12
    names = ["ann", "bob", "cyd", "dan"]
    rng.shuffle(names)
    people = []
    for number, name in enumerate(names):
        span = rng.choice([(0, FAR), (step, FAR), (0, 7 * step), (3 * step, 3 * step + 5)]) if number < 2 else None
        people.append((name, rng.choice([1, 2, step, 2 * step + 1]), rng.choice([0, 1, step, 3 * step]), span))
    meetings = []
    for number in range(rng.randint(1, 5)):
        a, b = rng.sample(names, 2)
        meetings.append((rng.randint(1, 12) * step + rng.randint(-2, 2), a, b))
    plan = Plan(people, meetings)
    world = [(name, rng.randint(*span)) for name, wait, show, span in people if span and rng.random() < 0.7]
    looks = []
    for number in range(rng.choice([0, 1, 2, 2, 3])):
        look = (rng.randint(0, 12) * step + rng.randint(0, 2), rng.choice(names), True)
        looks.append((look[0], look[1], not expected_broken(plan, [look], world)))
    return plan, looks, [rng.randint(0, FAR), rng.randint(0, 12) * step]


def telling_worlds(plan, looks, days):
    """Return worlds of as many own days as can make a difference for the looks, the meetings and these days."""
    near = {}
    for name, wait, show, span in plan.people:
        if span is not None:
            marks = [day - wait for day, a, b in plan.meetings if name in (a, b)]
            marks += [day - show for day, other, is_shown in looks if other == name]
            marks += [day - later for day in days for later in (0, wait, show)] + list(span)
            marks += [day for day, a, b in plan.meetings if name in (a, b)]
            marks += [mark + 1 for mark in marks]
            near[name] = sorted({mark for mark in marks if span[0] <= mark <= span[1]})
    return worlds_of_days(plan, near)


def eight_people(rng):
    """Return a plan of eight people and sixteen meetings whose worlds are not too many to try, and its worlds."""
    names = ["hal", "ann", "gus", "bob", "fay", "cyd", "eve", "dan"]
    people = []
    for number, name in enumerate(names):
        first = rng.randint(0, 4)
        people.append((name, rng.randint(1, 2), rng.randint(0, 3), (first, first + (number < 2))))
    meetings = [(rng.randint(1, 10), *rng.sample(names, 2)) for number in range(16)]
    plan = Plan(people, meetings)
    return plan, all_worlds(plan)


def moved(plan, looks, by):
    """Return the plan and the looks with all days later by so many."""
    people = []
    for name, wait, show, span in plan.people:
        people.append((name, wait, show, span and (span[0] + by, span[1] + by)))
    meetings = [(day + by, a, b) for day, a, b in plan.meetings]
    return Plan(people, meetings), [(day + by, name, is_shown) for day, name, is_shown in looks]

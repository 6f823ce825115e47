"""Worlds: what follows from some first ones, each since a day."""

from firstbore.errors import InvalidWorld
from firstbore.kinds import is_number, is_sequence, is_tuple_of


def is_first_one(plan, value):
    """Tell whether any value is a pair of a name and a day of the span of this person."""
    if not is_tuple_of(value, 2) or value[0] not in plan.names:
        return False
    name, day = value
    span = plan.people[plan.place(name)][3]
    return span is not None and is_number(day) and span[0] <= day <= span[1]


def check_world(plan, world):
    """Raise InvalidWorld unless any value is a world of the plan."""
    if not is_sequence(world):
        raise InvalidWorld(0)
    names = []
    for at, pair in enumerate(world):
        if not is_first_one(plan, pair) or pair[0] in names:
            raise InvalidWorld(at)
        names.append(pair[0])


def is_able(plan, place, start, day):
    """Tell whether a person who bears it since a start (None: never) is able on a day."""
    return start is not None and start + plan.people[place][1] <= day


def spread(plan, world):
    """Return two lists for the people: since when they bear it, and (giver, meeting) of what brought it.

    In the first one None stands for never, in the second one for an own day or never.
    """
    starts = [None] * len(plan.people)
    sources = [None] * len(plan.people)
    for name, day in world:
        starts[plan.place(name)] = day
    # Meetings of one day can stand in any order: each wait is at least 1, so none follows on another.
    for at in sorted(range(len(plan.meetings)), key=lambda number: plan.meetings[number][0]):
        day, a, b = plan.meetings[at]
        first, second = plan.place(a), plan.place(b)
        for giver, taker in ((first, second), (second, first)):
            is_sooner = starts[taker] is None or day < starts[taker]
            if is_sooner and is_able(plan, giver, starts[giver], day):
                starts[taker] = day
                sources[taker] = (giver, at)
    return starts, sources


def lot_behind(plan, world, delays, day):
    """Return the lot of those who on a day bear it for at least their delay."""
    names = []
    for name, start, delay in zip(plan.names, since(plan, world), delays):
        if start is not None and start + delay <= day:
            names.append(name)
    return tuple(sorted(names))


def since(plan, world):
    """Return the day since when each person bears it, None for never."""
    check_world(plan, world)
    return tuple(spread(plan, world)[0])


def able(plan, world, day):
    """Return the lot of those who are able to pass it on on a day."""
    return lot_behind(plan, world, [person[1] for person in plan.people], day)


def shows(plan, world, day):
    """Return the lot of those who show it on a day."""
    return lot_behind(plan, world, [person[2] for person in plan.people], day)


def chain(plan, world, name):
    """Return the meetings by which it came to a person first, () for the own day, None for never."""
    place = plan.place(name)
    check_world(plan, world)
    starts, sources = spread(plan, world)
    if starts[place] is None:
        return None
    ats = []
    while sources[place] is not None:
        place, at = sources[place]
        ats.append(at)
    return tuple(reversed(ats))

"""Worlds: what follows from some first ones, each since a day."""

from firstbore.errors import InvalidWorld
from firstbore.kinds import is_number, is_sequence, is_tuple_of
from firstbore.passages import chain_behind, spread
from firstbore.plans import is_name_of


def is_first_one(plan, value):
    """Tell whether any value is a pair of a name and a day of the span of this person."""
    if not is_tuple_of(value, 2) or not is_name_of(plan, value[0]):
        return False
    name, day = value
    span = plan.people[plan.place(name)][3]
    return span is not None and is_number(day) and span[0] <= day <= span[1]


def check_world(plan, world):
    """Raise InvalidWorld unless any value is a world of the plan."""
    if not is_sequence(world):
        raise InvalidWorld(0)
    names = []
    for at, pair in enumerate(world):
        if not is_first_one(plan, pair) or pair[0] in names:
            raise InvalidWorld(at)
        names.append(pair[0])


def own_days(plan, world):
    """Return the own day of each person in a world, None for those who are no first one."""
    days = [None for person in plan.people]
    for name, day in world:
        days[plan.place(name)] = day
    return days


def lot_behind(plan, world, delays, day):
    """Return the lot of those who on a day bear it for at least their delay."""
    names = []
    for name, start, delay in zip(plan.names, since(plan, world), delays):
        if start is not None and start + delay <= day:
            names.append(name)
    return tuple(sorted(names))


def since(plan, world):
    """Return the day since when each person bears it, None for never."""
    check_world(plan, world)
    return tuple(spread(plan.passages, own_days(plan, world)))


def able(plan, world, day):
    """Return the lot of those who are able to pass it on on a day."""
    return lot_behind(plan, world, [person[1] for person in plan.people], day)


def shows(plan, world, day):
    """Return the lot of those who show it on a day."""
    return lot_behind(plan, world, [person[2] for person in plan.people], day)


def chain(plan, world, name):
    """Return the meetings by which it came to a person first, () for the own day, None for never."""
    place = plan.place(name)
    check_world(plan, world)
    own = own_days(plan, world)
    starts = spread(plan.passages, own)
    if starts[place] is None:
        return None
    return chain_behind(plan.passages, own, starts, place)

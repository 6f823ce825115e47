"""Looks: who was seen to show it on a day, or not to show it."""

from firstbore.errors import InvalidLooks
from firstbore.kinds import is_number, is_sequence, is_tuple_of
from firstbore.worlds import since


def is_look(plan, value):
    """Tell whether any value is a look: a day, a name of a person and a bool."""
    if not is_tuple_of(value, 3):
        return False
    day, name, is_shown = value
    return is_number(day) and name in plan.names and isinstance(is_shown, bool)


def check_looks(plan, looks):
    """Raise InvalidLooks unless any value is a sequence of looks at people of the plan."""
    if not is_sequence(looks):
        raise InvalidLooks(0)
    for at, look in enumerate(looks):
        if not is_look(plan, look):
            raise InvalidLooks(at)


def latest_shown_start(plan, look):
    """Return the latest day since when the person of a look shows it on the day of the look."""
    day, name, is_shown = look
    return day - plan.people[plan.place(name)][2]


def holds(plan, look, starts):
    """Tell whether a look holds where people bear it since these days, None for never."""
    day, name, is_shown = look
    start = starts[plan.place(name)]
    is_showing = start is not None and start <= latest_shown_start(plan, look)
    return is_showing == is_shown


def broken(plan, looks, world):
    """Return the numbers of the looks that do not hold in a world."""
    check_looks(plan, looks)
    starts = since(plan, world)
    return tuple([at for at, look in enumerate(looks) if not holds(plan, look, starts)])


def fits(plan, looks, world):
    """Tell whether all looks hold in a world."""
    return broken(plan, looks, world) == ()

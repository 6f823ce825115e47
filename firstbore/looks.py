"""Looks: who was seen to show it on a day, or not to show it."""

from firstbore.errors import InvalidLooks
from firstbore.kinds import is_number, is_sequence, is_tuple_of
from firstbore.plans import is_name_of
from firstbore.worlds import since


def is_look(plan, value):
    """Tell whether any value is a look: a day, a name of a person and a bool."""
    if not is_tuple_of(value, 3):
        return False
    day, name, is_shown = value
    return is_number(day) and is_name_of(plan, name) and isinstance(is_shown, bool)


def check_looks(plan, looks):
    """Raise InvalidLooks unless any value is a sequence of looks at people of the plan."""
    if not is_sequence(looks):
        raise InvalidLooks(0)
    for at, look in enumerate(looks):
        if not is_look(plan, look):
            raise InvalidLooks(at)


def shown_by(plan, look):
    """Return the place of the person of a look, and the latest day since when this person shows it then."""
    day, name, is_shown = look
    place = plan.place(name)
    return place, day - plan.people[place][2]


def is_showing(plan, look, starts):
    """Tell whether the person of a look shows it then, if people bear it since these days, None for never."""
    place, latest = shown_by(plan, look)
    return starts[place] is not None and starts[place] <= latest


def unshown(plan, looks, starts):
    """Return the numbers of the looks that show something, but do not hold, if people bear it since these days."""
    return [at for at, look in enumerate(looks) if look[2] and not is_showing(plan, look, starts)]


def broken(plan, looks, world):
    """Return the numbers of the looks that do not hold in a world."""
    check_looks(plan, looks)
    starts = since(plan, world)
    return tuple([at for at, look in enumerate(looks) if is_showing(plan, look, starts) != look[2]])


def fits(plan, looks, world):
    """Tell whether all looks hold in a world."""
    return broken(plan, looks, world) == ()

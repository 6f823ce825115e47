"""What follows for all worlds that fit some looks."""

from firstbore.errors import NoWorld
from firstbore.explaining import explanations
from firstbore.looks import check_looks, unshown
from firstbore.passages import spread
from firstbore.starts import barred_by_looks, barred_further, own_behind, spread_behind


def is_fitted(plan, looks, barred):
    """Tell whether some world fits looks that bar these days."""
    # If any world fits, the one of all whom the looks that show nothing allow does.
    return unshown(plan, looks, spread_behind(plan, barred)) == []


def possible(plan, looks):
    """Tell whether some world fits."""
    check_looks(plan, looks)
    return is_fitted(plan, looks, barred_by_looks(plan, looks))


def barred_if_possible(plan, looks):
    """Return the days that looks bar; InvalidLooks unless any value is looks, NoWorld unless some world fits."""
    check_looks(plan, looks)
    barred = barred_by_looks(plan, looks)
    if not is_fitted(plan, looks, barred):
        raise NoWorld()
    return barred


def greatest(plan, looks):
    """Return the world of all who can be a first one, each since the earliest day."""
    own = own_behind(plan, barred_if_possible(plan, looks))
    return tuple(sorted([(name, day) for name, day in zip(plan.names, own) if day is not None]))


def since_possibly(plan, looks, name):
    """Return the earliest day since when a person bears it in some world that fits, None for never."""
    place = plan.place(name)
    return spread_behind(plan, barred_if_possible(plan, looks))[place]


def bears_surely(plan, looks, barred, place, day):
    """Tell whether a person bears it by a day in all worlds that fit; the days are those barred by the looks."""
    # Without all that leads to it by then, only a look that shows something can break.
    return unshown(plan, looks, spread_behind(plan, barred_further(plan, barred, place, day))) != []


def surely_by_look(plan, own, look, place):
    """Return the earliest day by which all who alone can explain a look bring it to a person, None for none."""
    days = []
    for first, day in explanations(plan, own, look):
        # A later own day does not bring it earlier, so the latest one that explains the look tells of all.
        start = spread(plan.passages, [day if at == first else None for at in range(len(own))])[place]
        if start is None:
            return None
        days.append(start)
    return max(days)


def since_surely(plan, looks, name):
    """Return the earliest day by which a person bears it in all worlds that fit, None if there is none."""
    place = plan.place(name)
    own = own_behind(plan, barred_if_possible(plan, looks))
    # If each look is explained by somebody who does not bring it to the person by a day, these together are a world
    # that fits, in which the person does not bear it by then.
    days = [surely_by_look(plan, own, look, place) for look in looks if look[2]]
    return min([day for day in days if day is not None], default=None)


def outcomes(plan, looks, barred, place, day):
    """Return, ascending, what can be in worlds that fit (False, True): that a person bears it by a day."""
    start = spread_behind(plan, barred)[place]
    if start is None or start > day:
        return (False,)
    if bears_surely(plan, looks, barred, place, day):
        return (True,)
    return (False, True)


def status(plan, looks, name, day):
    """Return "able", "not" or "open": able on a day in all worlds that fit, in none, in some only."""
    place = plan.place(name)
    told = outcomes(plan, looks, barred_if_possible(plan, looks), place, day - plan.people[place][1])
    if len(told) == 2:
        return "open"
    if told[0]:
        return "able"
    return "not"


def is_missed(plan, looks, own, place):
    """Tell whether a look does not hold any more if the person at this place is no first one."""
    others = [None if at == place else day for at, day in enumerate(own)]
    return unshown(plan, looks, spread(plan.passages, others)) != []


def first_ones(plan, looks):
    """Return the lots of those who are a first one in all worlds that fit, and in some."""
    own = own_behind(plan, barred_if_possible(plan, looks))
    some = [place for place, day in enumerate(own) if day is not None]
    always = [place for place in some if is_missed(plan, looks, own, place)]
    return tuple(sorted([plan.names[place] for place in always])), tuple(sorted([plan.names[place] for place in some]))

"""Two plans of the same people, compared for all worlds."""

from firstbore.errors import InvalidPlan
from firstbore.passages import spread


def telling_days(plan, place):
    """Return the own days of a person that tell of all others whether somebody bears it earlier by this plan."""
    span = plan.people[place][3]
    if span is None:
        return []
    days = [span[1]]
    # All own days up to one of these, and behind the one before, lead to the same by this plan. If they lead to
    # less by another plan, so does the last one of them, as a later own day never leads to more.
    for giver, latest, taker, day, at in plan.passages:
        if giver == place and span[0] <= latest <= span[1]:
            days.append(latest)
    return sorted(set(days))


def sooner_place(p, q, own):
    """Return the first place of somebody who bears it earlier by p than by q from these own days, None for nobody."""
    for place, (day, other) in enumerate(zip(spread(p.passages, own), spread(q.passages, own))):
        if day is not None and (other is None or day < other):
            return place
    return None


def sooner(p, q):
    """Return some world with one first one and somebody who bears it earlier by p than by q, None if there is none."""
    if p.people != q.people:
        raise InvalidPlan("people")
    # Worlds of one first one tell of all: with several ones each bears it since the earliest day of theirs.
    for first in range(len(p.people)):
        for day in telling_days(p, first):
            place = sooner_place(p, q, [day if at == first else None for at in range(len(p.people))])
            if place is not None:
                world = ((p.names[first], day),)
                return world, p.names[place]
    return None


def never_sooner(p, q):
    """Tell whether in no world anybody bears it since an earlier day by p than by q."""
    return sooner(p, q) is None


def alike(p, q):
    """Tell whether since when each person bears it is the same by both plans in all worlds."""
    return never_sooner(p, q) and never_sooner(q, p)

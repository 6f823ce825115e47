"""How early people may begin, so that some things do not come of any one of them alone.

A later beginning brings nothing earlier, so for each person the days to be kept away from are all up to
some last one. A list of these, one for each person of a plan, is called `barred` here; -1 bars no day.
"""

from firstbore.looks import latest_shown_start


def spans_of(plan):
    """Return (name, first day, last day) of each person with a span, in the order of people."""
    return [(name, span[0], span[1]) for name, wait, show, span in plan.people if span is not None]


def barred_by_day(plan, place, day):
    """Return the barred days if the person at this place is not to bear it by a day."""
    barred = [-1] * len(plan.people)
    barred[place] = day
    # Backwards, as what a meeting brings can only be passed on at a later one: each wait is at least 1.
    for met, a, b in sorted(plan.meetings, key=lambda meeting: meeting[0], reverse=True):
        first, second = plan.place(a), plan.place(b)
        for giver, taker in ((first, second), (second, first)):
            if met <= barred[taker]:
                barred[giver] = max(barred[giver], met - plan.people[giver][1])
    return barred


def later_ones(one, other):
    """Return the barred days if two lists of them are to be kept away from."""
    return [max(day, further) for day, further in zip(one, other)]


def barred_by_looks(plan, looks):
    """Return the barred days if the looks that show nothing are to hold."""
    barred = [-1] * len(plan.people)
    for look in looks:
        if not look[2]:
            place = plan.place(look[1])
            barred = later_ones(barred, barred_by_day(plan, place, latest_shown_start(plan, look)))
    return barred


def days_behind(plan, barred):
    """Return, for each person with a span, its first day that is not barred, or else its last one plus 1."""
    days = []
    for name, first, last in spans_of(plan):
        days.append(min(max(first, barred[plan.place(name)] + 1), last + 1))
    return tuple(days)


def world_since(plan, days):
    """Return the world, ascending, of those with a span for whom such a day is not beyond it."""
    pairs = []
    for (name, first, last), day in zip(spans_of(plan), days):
        if day <= last:
            pairs.append((name, day))
    return tuple(sorted(pairs))


def world_behind(plan, barred):
    """Return the world of all whose span is not barred whole, each as early as can be."""
    return world_since(plan, days_behind(plan, barred))

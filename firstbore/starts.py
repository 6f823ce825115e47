"""How early people may begin, so that some things do not come of any one of them alone.

A later beginning brings nothing earlier, so for each person the days to be kept away from are all up to
some last one. A list of these, one for each person of a plan, is called `barred` here; -1 bars no day.
"""

from firstbore.looks import shown_by
from firstbore.passages import led_back, spread


def barred_by_looks(plan, looks):
    """Return the barred days if the looks that show nothing are to hold."""
    barred = [-1 for person in plan.people]
    for look in looks:
        if not look[2]:
            place, latest = shown_by(plan, look)
            barred[place] = max(barred[place], latest)
    return led_back(plan.passages, barred)


def barred_further(plan, barred, place, day):
    """Return the barred days if the person at this place is not to bear it by a day, either."""
    further = list(barred)
    further[place] = max(further[place], day)
    return led_back(plan.passages, further)


def first_day_left(span, last_barred):
    """Return the first day of a span that is not barred, None for none."""
    if span is None or span[1] <= last_barred:
        return None
    return max(span[0], last_barred + 1)


def own_behind(plan, barred):
    """Return the own day of each person if all begin who may, each as early as may be, None for the others."""
    return [first_day_left(person[3], last_barred) for person, last_barred in zip(plan.people, barred)]


def spread_behind(plan, barred):
    """Return since when each person bears it if all begin so, None for never."""
    return spread(plan.passages, own_behind(plan, barred))

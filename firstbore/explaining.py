"""Who can have brought it to somebody who showed it: what a look that shows something asks for."""

from firstbore.looks import shown_by
from firstbore.passages import led_back


def explanations(plan, own, look):
    """Return (place, day) for each of those with an own day who alone since then explain what a look shows.

    The day is the latest own day in the span that explains it, too.
    """
    place, latest = shown_by(plan, look)
    latest_days = led_back(plan.passages, [latest if at == place else -1 for at in range(len(own))])
    found = []
    for at, (day, last) in enumerate(zip(own, latest_days)):
        if day is not None and day <= last:
            found.append((at, min(last, plan.people[at][3][1])))
    return found

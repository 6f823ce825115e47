"""How it passes: each meeting makes two passages, one for each of both who can give it.

A passage is a tuple (giver, latest, taker, day, at): the places of two people, the latest day since when the giver
bears it and is able at the meeting, the day of the meeting and its number. Passages stand in the order of days.
"""


def passages_of(people, places, meetings):
    """Return the passages of meetings; `places` has the number of the person with each name."""
    passages = []
    for at in sorted(range(len(meetings)), key=lambda number: meetings[number][0]):
        day, a, b = meetings[at]
        for giver, taker in ((places[a], places[b]), (places[b], places[a])):
            passages.append((giver, day - people[giver][1], taker, day, at))
    return tuple(passages)


def passages_without(passages, ats):
    """Return the passages but those of the meetings with these numbers."""
    return [passage for passage in passages if passage[4] not in ats]


def spread(passages, own):
    """Return since when each person bears it, None for never, from the own days of the first ones (else None)."""
    starts = list(own)
    # One pass is enough, whatever the order within a day: each wait is at least 1, so nothing goes on on this day.
    for giver, latest, taker, day, at in passages:
        start = starts[giver]
        if start is not None and start <= latest and (starts[taker] is None or day < starts[taker]):
            starts[taker] = day
    return starts


def led_back(passages, latest_days):
    """Return, for each person, the latest own day that alone leads somebody to bear it by the latest day given.

    For each person a day is given, and returned: -1 for none.
    """
    found = list(latest_days)
    # Backwards for the same reason: what a meeting brings can only be passed on at a later one.
    for giver, latest, taker, day, at in reversed(passages):
        if day <= found[taker] and latest > found[giver]:
            found[giver] = latest
    return found


def source_of(passages, starts, place):
    """Return (giver, meeting) of the passage by which the person at a place came to bear it first."""
    for giver, latest, taker, day, at in passages:
        # In the order of days the first one whose giver is able is the one on the day of the start.
        if taker == place and starts[giver] is not None and starts[giver] <= latest:
            return giver, at
    return None


def chain_behind(passages, own, starts, place):
    """Return the meetings by which somebody who bears it came to bear it first, () for the own day."""
    ats = []
    while starts[place] != own[place]:
        place, at = source_of(passages, starts, place)
        ats.append(at)
    return tuple(reversed(ats))

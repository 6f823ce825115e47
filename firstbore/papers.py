"""Papers: why somebody surely bears it by a day, so that anybody can check it."""

from firstbore.deciding import barred_if_possible
from firstbore.kinds import is_integer, is_number, is_tuple_of
from firstbore.looks import broken, check_looks, unshown
from firstbore.passages import spread
from firstbore.starts import barred_further, own_behind
from firstbore.worlds import since


def spans_of(plan):
    """Return (name, first day, last day) of each person with a span, in the order of people."""
    return [(name, span[0], span[1]) for name, wait, show, span in plan.people if span is not None]


def days_of(plan, own):
    """Return the days of a paper that stand for these own days."""
    days = []
    for person, day in zip(plan.people, own):
        span = person[3]
        if span is not None:
            days.append(span[1] + 1 if day is None else day)
    return tuple(days)


def world_of(plan, days):
    """Return the world of those for whom the day of a paper is not beyond the span."""
    return [(name, day) for (name, first, last), day in zip(spans_of(plan), days) if day <= last]


def paper(plan, looks, name, day):
    """Return some right paper for a name and a day, None if there is none."""
    place = plan.place(name)
    barred = barred_further(plan, barred_if_possible(plan, looks), place, day)
    # The latest days that can be right: where any paper is right, these leave its look unheld too.
    own = own_behind(plan, barred)
    missed = unshown(plan, looks, spread(plan.passages, own))
    if missed == []:
        return None
    return days_of(plan, own), missed[0]


def are_paper_days(plan, value):
    """Tell whether any value is a tuple with a day of the span, or its last one plus 1, for each span."""
    spans = spans_of(plan)
    if not is_tuple_of(value, len(spans)):
        return False
    for (name, first, last), day in zip(spans, value):
        if not is_integer(day) or not first <= day <= last + 1:
            return False
    return True


def is_paper_form(plan, looks, value):
    """Tell whether any value is a pair of such days and the number of a look."""
    if not is_tuple_of(value, 2):
        return False
    days, at = value
    return are_paper_days(plan, days) and is_number(at) and at < len(looks)


def is_ruled_out(plan, looks, name, day, pair):
    """Tell whether one first one alone breaks a look that shows nothing, or brings it to the name by the day."""
    world = (pair,)
    for at in broken(plan, looks, world):
        if not looks[at][2]:
            return True
    start = since(plan, world)[plan.place(name)]
    return start is not None and start <= day


def paper_holds(plan, looks, name, day, value):
    """Tell whether any value is a right paper for a name and a day."""
    # Only what the words of a paper ask for is looked at, not how papers are found: a check must stand alone.
    plan.place(name)
    check_looks(plan, looks)
    if not is_paper_form(plan, looks, value):
        return False
    days, at = value
    for (other, first, last), start in zip(spans_of(plan), days):
        if start != first and not is_ruled_out(plan, looks, name, day, (other, start - 1)):
            return False
    return looks[at][2] and at in broken(plan, looks, world_of(plan, days))

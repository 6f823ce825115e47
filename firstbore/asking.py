"""What further looks can show, and which of them settle a question."""

from firstbore.deciding import barred_if_possible, outcomes
from firstbore.looks import shown_by
from firstbore.starts import barred_by_looks


def results_behind(plan, looks, barred, name, day):
    """Return the results of a further look at a person on a day in worlds that fit looks, which bar these days."""
    place, latest = shown_by(plan, (day, name, True))
    return outcomes(plan, looks, barred, place, latest)


def looks_behind(plan, looks, barred, name, day):
    """Return the looks with a further one at a person on a day, once for each result that it can have."""
    return [[*looks, (day, name, result)] for result in results_behind(plan, looks, barred, name, day)]


def is_settled(plan, looks, place, day):
    """Tell whether in all worlds that fit, or in none, a person bears it by a day; some world fits the looks."""
    return len(outcomes(plan, looks, barred_by_looks(plan, looks), place, day)) == 1


def results(plan, looks, name, day):
    """Return, ascending, the results that a further look at a person on a day can have in some world that fits."""
    plan.place(name)
    return results_behind(plan, looks, barred_if_possible(plan, looks), name, day)


def settling(plan, looks, name, day, days):
    """Return all (d, other) of these days such that a look then settles whether a person bears it by a day."""
    place = plan.place(name)
    barred = barred_if_possible(plan, looks)
    pairs = []
    for asked in sorted(set(days)):
        for other in sorted(plan.names):
            told = looks_behind(plan, looks, barred, other, asked)
            if all([is_settled(plan, further, place, day) for further in told]):
                pairs.append((asked, other))
    return tuple(pairs)

"""Sets of meetings that would have kept somebody clean, and ways that have no meeting in common."""

from firstbore.least import least_sets
from firstbore.passages import chain_behind, passages_without, spread
from firstbore.worlds import check_world, own_days


def chain_left(plan, own, place, day, cut):
    """Return the meetings of a chain to a person by a day without these meetings, None if there is none."""
    passages = passages_without(plan.passages, cut)
    starts = spread(passages, own)
    if starts[place] is None or starts[place] > day:
        return None
    return chain_behind(passages, own, starts, place)


def cuts_behind(plan, own, place, day):
    """Return all least sets of meetings without which a person does not bear it by a day, from the own days."""
    # A set of meetings keeps the person clean if it has one of each chain.
    return least_sets(lambda cut: chain_left(plan, own, place, day, cut))


def least_cuts(plan, world, name, day):
    """Return all least sets of meetings without which a person does not bear it by a day in a world."""
    place = plan.place(name)
    check_world(plan, world)
    own = own_days(plan, world)
    if own[place] is not None and own[place] <= day:
        return ()
    return cuts_behind(plan, own, place, day)


def ways_apart(plan, world, name, day):
    """Return the greatest number of chains to a person by a day, no two with a common meeting."""
    place = plan.place(name)
    check_world(plan, world)
    own = own_days(plan, world)
    # No chain begins with the person. There are as many ways apart as meetings in the shortest cut of all chains.
    own[place] = None
    return len(cuts_behind(plan, own, place, day)[0])

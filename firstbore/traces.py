"""The meetings that are needed, and those that can have brought it."""

from firstbore.deciding import barred_if_possible
from firstbore.looks import unshown
from firstbore.passages import passages_without, spread
from firstbore.starts import barred_further, own_behind, spread_behind


def is_needed(plan, looks, own, at):
    """Tell whether without a meeting some look that shows something breaks, these being the own days."""
    return unshown(plan, looks, spread(passages_without(plan.passages, [at]), own)) != []


def needed(plan, looks):
    """Return the numbers of the meetings without which, each alone, each world that fits breaks a look."""
    # Without a meeting nobody bears it earlier, so no look that shows nothing breaks; and the greatest of the
    # worlds that fit breaks no look that shows something if any of them breaks none.
    own = own_behind(plan, barred_if_possible(plan, looks))
    return tuple([at for at in range(len(plan)) if is_needed(plan, looks, own, at)])


def can_bring(plan, looks, barred, passage):
    """Tell whether in some world that fits the taker of a passage bears it since just then, the giver being able."""
    giver, latest, taker, day, at = passage
    # The greatest of the worlds in which the taker does not bear it earlier: if the giver is able, it is not later.
    starts = spread_behind(plan, barred_further(plan, barred, taker, day - 1))
    if starts[giver] is None or starts[giver] > latest:
        return False
    return unshown(plan, looks, starts) == []


def brings(plan, looks):
    """Return all (meeting, name) where in some world that fits this meeting can have brought it to the person."""
    barred = barred_if_possible(plan, looks)
    pairs = []
    for passage in plan.passages:
        if can_bring(plan, looks, barred, passage):
            pairs.append((passage[4], plan.people[passage[2]][0]))
    return tuple(sorted(pairs))

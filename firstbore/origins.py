"""The least lots of people who can be just the first ones."""

from firstbore.deciding import barred_if_possible
from firstbore.explaining import explanations
from firstbore.least import least_sets
from firstbore.starts import own_behind


def group_missed(groups, lot):
    """Return the first group of names without one of the lot, None if there is none."""
    for group in groups:
        if not any([name in lot for name in group]):
            return group
    return None


def least_lots(plan, looks):
    """Return all least lots of people who are just the first ones in some world that fits."""
    # Who begins as early as the looks that show nothing allow explains most: each look asks for one who does.
    own = own_behind(plan, barred_if_possible(plan, looks))
    groups = []
    for look in looks:
        if look[2]:
            groups.append([plan.names[place] for place, day in explanations(plan, own, look)])
    return least_sets(lambda lot: group_missed(groups, lot))


def fewest(plan, looks):
    """Return the number of people of the shortest least lots."""
    return len(least_lots(plan, looks)[0])

"""The least lots of people who can be just the first ones."""

from firstbore.deciding import barred_if_possible
from firstbore.least import least_sets
from firstbore.looks import shown_by
from firstbore.passages import led_back
from firstbore.starts import own_behind


def leaders(plan, own, look):
    """Return the names of those who alone, since the own day, bring it to the person of a look in time."""
    place, latest = shown_by(plan, look)
    latest_days = led_back(plan.passages, [latest if at == place else -1 for at in range(len(plan.people))])
    names = []
    for name, day, last_leading in zip(plan.names, own, latest_days):
        if day is not None and day <= last_leading:
            names.append(name)
    return names


def group_missed(groups, lot):
    """Return the first group of names without one of the lot, None if there is none."""
    for group in groups:
        if not any([name in lot for name in group]):
            return group
    return None


def least_lots(plan, looks):
    """Return all least lots of people who are just the first ones in some world that fits."""
    # Who begins as early as the looks that show nothing allow explains most: each look asks for one who does.
    own = own_behind(plan, barred_if_possible(plan, looks))
    groups = [leaders(plan, own, look) for look in looks if look[2]]
    return least_sets(lambda lot: group_missed(groups, lot))


def fewest(plan, looks):
    """Return the number of people of the shortest least lots."""
    return len(least_lots(plan, looks)[0])

"""Least sets that leave no group without one of its members."""


def contains_one(chosen, found):
    """Tell whether all members of some found set are chosen."""
    return any([all([member in chosen for member in least]) for least in found])


def least_sets(missed):
    """Return the least sets, as ascending tuples that miss no group: shorter ones first, then ascending.

    `missed(chosen)` returns the members of some group with no chosen one, None if there is no such group.
    """
    found = []
    level = [()]
    while len(level) > 0:
        longer = []
        for chosen in level:
            # All shorter least sets are known by now, so what contains none of them is least itself.
            if contains_one(chosen, found):
                continue
            group = missed(chosen)
            if group is None:
                found.append(chosen)
            else:
                # Each set that misses nothing has one of this group, so none is passed over.
                longer.extend([tuple(sorted([*chosen, member])) for member in group])
        level = sorted(set(longer))
    return tuple(found)

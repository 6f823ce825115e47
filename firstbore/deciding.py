"""What follows for all worlds that fit some looks."""

from firstbore.errors import NoWorld
from firstbore.looks import check_looks, fits
from firstbore.starts import barred_by_day, barred_by_looks, later_ones, spans_of, world_behind
from firstbore.worlds import since


def possible(plan, looks):
    """Tell whether some world fits."""
    check_looks(plan, looks)
    # If any world fits, the one of all whom the looks that show nothing allow does.
    return fits(plan, looks, world_behind(plan, barred_by_looks(plan, looks)))


def check_possible(plan, looks):
    """Raise InvalidLooks unless any value is looks, and NoWorld unless some world fits them."""
    if not possible(plan, looks):
        raise NoWorld()


def greatest(plan, looks):
    """Return the world of all who can be a first one, each since the earliest day."""
    check_possible(plan, looks)
    return world_behind(plan, barred_by_looks(plan, looks))


def since_possibly(plan, looks, name):
    """Return the earliest day since when a person bears it in some world that fits, None for never."""
    place = plan.place(name)
    return since(plan, greatest(plan, looks))[place]


def bears_surely(plan, looks, name, day):
    """Tell whether a person bears it by a day in all worlds that fit; looks that some world fits."""
    by_day = barred_by_day(plan, plan.place(name), day)
    barred = later_ones(barred_by_looks(plan, looks), by_day)
    # Without all that leads to it by then, only a look that shows something can break.
    return not fits(plan, looks, world_behind(plan, barred))


def last_day(plan):
    """Return a day behind which nobody begins to bear it."""
    meeting_days = [day for day, a, b in plan.meetings]
    span_days = [last for name, first, last in spans_of(plan)]
    return max(meeting_days + span_days, default=0)


def since_surely(plan, looks, name):
    """Return the earliest day by which a person bears it in all worlds that fit, None if there is none."""
    plan.place(name)
    check_possible(plan, looks)
    low = 0
    high = last_day(plan)
    if not bears_surely(plan, looks, name, high):
        return None
    # Halving, as a span may have too many days to try each: who bears it by a day bears it by later ones.
    while low < high:
        middle = (low + high) // 2
        if bears_surely(plan, looks, name, middle):
            high = middle
        else:
            low = middle + 1
    return low


def status(plan, looks, name, day):
    """Return "able", "not" or "open": able on a day in all worlds that fit, in none, in some only."""
    start = since_possibly(plan, looks, name)
    latest = day - plan.people[plan.place(name)][1]
    if start is None or start > latest:
        return "not"
    if bears_surely(plan, looks, name, latest):
        return "able"
    return "open"


def first_ones(plan, looks):
    """Return the lots of those who are a first one in all worlds that fit, and in some."""
    world = greatest(plan, looks)
    always = []
    for name, day in world:
        if not fits(plan, looks, [pair for pair in world if pair[0] != name]):
            always.append(name)
    return tuple(always), tuple([name for name, day in world])

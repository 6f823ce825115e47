"""Live books: meetings and looks that go on, and can be taken back."""

from firstbore.deciding import possible
from firstbore.errors import InvalidLooks, Refused
from firstbore.kinds import is_sequence
from firstbore.looks import is_look
from firstbore.plans import is_meeting


class Live:
    """A plan and looks that go on; each deed can be taken back."""

    def __init__(self, plan):
        # What is told now, and what was told ahead of each deed: (plan, looks, whether some world fits).
        # All of it never changes itself, so putting these two back takes back whatever was done.
        self.told = (plan, (), possible(plan, ()))
        self.earlier = ()

    @property
    def plan(self):
        """The plan, with the meetings that were added."""
        return self.told[0]

    @property
    def looks(self):
        """The looks so far."""
        return self.told[1]

    @property
    def is_possible(self):
        """Whether some world fits."""
        return self.told[2]

    def go_on(self, plan, looks):
        """Do a deed behind which there are this plan and these looks, and return whether some world fits then."""
        told = (plan, looks, possible(plan, looks))
        self.earlier = (*self.earlier, self.told)
        self.told = told
        return self.is_possible

    def meet(self, day, a, b):
        """Add a meeting; any values."""
        meeting = (day, a, b)
        if not is_meeting(meeting, self.plan.names):
            raise Refused(len(self.plan))
        self.go_on(self.plan.further([meeting]), self.looks)

    def look(self, day, name, is_shown):
        """Add a look, and return whether some world fits then; any values."""
        look = (day, name, is_shown)
        if not is_look(self.plan, look):
            raise InvalidLooks(len(self.looks))
        return self.go_on(self.plan, (*self.looks, look))

    def several(self, looks):
        """Add all looks of a sequence, or none, and return whether some world fits then; any value."""
        if not is_sequence(looks):
            raise Refused(0)
        for at, look in enumerate(looks):
            if not is_look(self.plan, look):
                raise Refused(at)
        return self.go_on(self.plan, (*self.looks, *looks))

    def undo(self):
        """Take back the last deed, and return whether there was one."""
        if len(self.earlier) == 0:
            return False
        self.told = self.earlier[-1]
        self.earlier = self.earlier[:-1]
        return True

    def within(self, work):
        """Call `work` with this book and return what it returns; behind it all is as it was ahead."""
        told, earlier = self.told, self.earlier
        try:
            return work(self)
        finally:
            self.told, self.earlier = told, earlier

    def __len__(self):
        return len(self.earlier)

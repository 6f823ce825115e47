"""Plans: the people, and who meets whom on which day."""

from firstbore.errors import InvalidPlan, NoName
from firstbore.kinds import is_name, is_number, is_sequence, is_tuple_of
from firstbore.passages import passages_of
from firstbore.planlines import meeting_line, person_line, read_lines


def is_span(value):
    """Tell whether any value is None or a pair of days, the first not after the second."""
    if value is None:
        return True
    if not is_tuple_of(value, 2):
        return False
    return is_number(value[0]) and is_number(value[1]) and value[0] <= value[1]


def is_person(value):
    """Tell whether any value is a person: a name, a wait, a show and a span."""
    if not is_tuple_of(value, 4):
        return False
    name, wait, show, span = value
    return is_name(name) and is_number(wait) and wait >= 1 and is_number(show) and is_span(span)


def are_people(value):
    """Tell whether any value is a sequence of at least one person, with unlike names."""
    if not is_sequence(value) or len(value) == 0:
        return False
    names = []
    for person in value:
        if not is_person(person) or person[0] in names:
            return False
        names.append(person[0])
    return True


def is_meeting(value, names):
    """Tell whether any value is a meeting of two people with unlike names among these."""
    if not is_tuple_of(value, 3):
        return False
    day, a, b = value
    return is_number(day) and a in names and b in names and a != b


def are_meetings(value, names):
    """Tell whether any value is a sequence of meetings of people with these names."""
    return is_sequence(value) and all([is_meeting(meeting, names) for meeting in value])


def names_of(people):
    """Return the names of people, in their order."""
    return tuple([person[0] for person in people])


def is_name_of(plan, value):
    """Tell whether any value is a name of a person of a plan."""
    return isinstance(value, str) and value in plan.places


class Plan:
    """People with their waits, shows and spans, and their meetings; it never changes."""

    def __init__(self, people, meetings=()):
        if not are_people(people):
            raise InvalidPlan("people")
        if not are_meetings(meetings, names_of(people)):
            raise InvalidPlan("meetings")
        self.people = tuple(people)
        self.meetings = tuple(meetings)
        # Kept for what is asked again and again: the number of each name, and how it passes at the meetings.
        self.places = {person[0]: place for place, person in enumerate(self.people)}
        self.passages = passages_of(self.people, self.places, self.meetings)

    @property
    def names(self):
        """The names of the people, in their order."""
        return names_of(self.people)

    def place(self, name):
        """Return the number of the person with this name."""
        if not is_name_of(self, name):
            raise NoName(name)
        return self.places[name]

    def without(self, ats):
        """Return the plan without the meetings with these numbers."""
        return Plan(self.people, [meeting for at, meeting in enumerate(self.meetings) if at not in ats])

    def further(self, meetings):
        """Return the plan with further meetings behind its own."""
        if not are_meetings(meetings, self.names):
            raise InvalidPlan("meetings")
        return Plan(self.people, [*self.meetings, *meetings])

    @classmethod
    def read(cls, text):
        """Return the plan with this text."""
        people, meetings = read_lines(text)
        return cls(people, meetings)

    def __len__(self):
        return len(self.meetings)

    def __eq__(self, other):
        return isinstance(other, Plan) and self.people == other.people and self.meetings == other.meetings

    def __str__(self):
        people = [person_line(person) for person in self.people]
        meetings = [meeting_line(meeting) for meeting in self.meetings]
        return "\n".join(people + meetings)

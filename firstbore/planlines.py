"""The lines of the text of a plan, written and read."""

from firstbore.errors import InvalidText
from firstbore.kinds import is_name, is_numeral


def person_line(person):
    """Return the line of a person."""
    name, wait, show, span = person
    if span is None:
        return f"person {name} {wait} {show} -"
    return f"person {name} {wait} {show} {span[0]} {span[1]}"


def meeting_line(meeting):
    """Return the line of a meeting."""
    day, a, b = meeting
    return f"meet {day} {a} {b}"


def are_numerals(words):
    """Tell whether each of the words is a numeral."""
    return all([is_numeral(word) for word in words])


def is_person_form(words):
    """Tell whether words are those of the line of a person."""
    if len(words) not in (5, 6) or words[0] != "person" or not is_name(words[1]):
        return False
    if len(words) == 5:
        return are_numerals(words[2:4]) and words[4] == "-"
    return are_numerals(words[2:])


def is_meeting_form(words):
    """Tell whether words are those of the line of a meeting."""
    if len(words) != 4 or words[0] != "meet":
        return False
    return is_numeral(words[1]) and is_name(words[2]) and is_name(words[3])


def person_of(words):
    """Return the person of the words of such a line."""
    span = None
    if len(words) == 6:
        span = (int(words[4]), int(words[5]))
    return words[1], int(words[2]), int(words[3]), span


def meeting_of(words):
    """Return the meeting of the words of such a line."""
    return int(words[1]), words[2], words[3]


def read_lines(text):
    """Return the people and the meetings of a text; they need not make a plan."""
    people = []
    meetings = []
    for at, line in enumerate(text.split("\n")):
        words = line.split(" ")
        if is_meeting_form(words):
            meetings.append(meeting_of(words))
        elif is_person_form(words) and len(meetings) == 0:
            people.append(person_of(words))
        else:
            raise InvalidText(at)
    return people, meetings

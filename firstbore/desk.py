"""Desks: a live book that is told by commands, and tells in texts."""

from firstbore.deciding import first_ones, since_possibly, since_surely, status
from firstbore.errors import InvalidCommand
from firstbore.kinds import is_name, is_numeral
from firstbore.live import Live
from firstbore.plans import Plan

# For each command what stands behind its word; a plan has a text instead.
FORMS = {
    "meet": ("DAY", "NAME", "NAME"),
    "look": ("DAY", "NAME", "yes or no"),
    "since": ("NAME",),
    "status": ("NAME", "DAY"),
    "first": (),
    "undo": (),
}


def is_of_form(word, form):
    """Tell whether a word is one that a form asks for."""
    if form == "DAY":
        return is_numeral(word)
    if form == "NAME":
        return is_name(word)
    return word in ("yes", "no")


def are_of_form(words):
    """Tell whether words are those of a command other than `plan`."""
    if words[0] not in FORMS:
        return False
    forms = FORMS[words[0]]
    if len(words) != len(forms) + 1:
        return False
    return all([is_of_form(word, form) for word, form in zip(words[1:], forms)])


def words_of(command):
    """Return the words of a command; InvalidCommand for any value that is no text of words in one line."""
    if not isinstance(command, str) or "\n" in command:
        raise InvalidCommand()
    words = command.split(" ")
    if "" in words:
        raise InvalidCommand()
    return words


def book_of(words):
    """Return the live book that the words of a text begin."""
    text = " ".join(words).replace(" ; ", "\n")
    return Live(Plan.read(text))


def told_meet(live, day, a, b):
    """Add a meeting, and return the number of meetings then."""
    live.meet(int(day), a, b)
    return str(len(live.plan))


def told_look(live, day, name, answer):
    """Add a look, and tell whether some world fits."""
    if live.look(int(day), name, answer == "yes"):
        return "fits"
    return "none"


def told_since(live, name):
    """Tell since when somebody surely bears it, or possibly, or that it is never."""
    sure = since_surely(live.plan, live.looks, name)
    if sure is not None:
        return f"surely {sure}"
    day = since_possibly(live.plan, live.looks, name)
    if day is not None:
        return f"possibly {day}"
    return "never"


def told_status(live, name, day):
    """Tell the status of somebody on a day."""
    return status(live.plan, live.looks, name, int(day))


def told_first(live):
    """Tell who can be a first one, with a mark at those who surely are."""
    always, some = first_ones(live.plan, live.looks)
    if some == ():
        return "nobody"
    return " ".join([name + "!" if name in always else name for name in some])


def told_undo(live):
    """Take back the last deed, and tell whether there was one."""
    if live.undo():
        return "undone"
    return "nothing"


ACTIONS = {
    "meet": told_meet,
    "look": told_look,
    "since": told_since,
    "status": told_status,
    "first": told_first,
    "undo": told_undo,
}


class Desk:
    """Does commands with a live book, of which there is none at first."""

    def __init__(self):
        self.live = None

    def say(self, command):
        """Do a command, and return what it results in."""
        words = words_of(command)
        if words[0] == "plan" and len(words) > 1:
            self.live = book_of(words[1:])
            return str(len(self.live.plan.people))
        if self.live is None or not are_of_form(words):
            raise InvalidCommand()
        action = ACTIONS[words[0]]
        rest = words[1:]
        return action(self.live, *rest)

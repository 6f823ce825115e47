"""[19], [20] desks."""

import random
import unittest

from firstbore.desk import Desk
from firstbore.errors import InvalidCommand, InvalidLooks, InvalidPlan, InvalidText, NoName, NoWorld, Refused
from firstbore.live import Live
from firstbore.plans import Plan
from samples import (
    FAR, LINES, LOOKS, MEETINGS, NAMES, PEOPLE, all_worlds, example, expected_broken, expected_since, no_names,
    tried_cases,
)

TEXT = " ; ".join(LINES)


def fresh_desk(*commands):
    """Return a desk with the plan of the example, that has done some commands."""
    desk = Desk()
    desk.say("plan " + TEXT)
    for command in commands:
        desk.say(command)
    return desk


def state_of(desk):
    """Return all that a desk keeps."""
    if desk.live is None:
        return None
    return desk.live, str(desk.live.plan), desk.live.looks, desk.live.is_possible, len(desk.live)


class Case(unittest.TestCase):
    def check_raises(self, desk, command, error, **attributes):
        """Look at an error, and that nothing has changed behind it."""
        state = state_of(desk)
        with self.subTest(command=command):
            with self.assertRaises(error) as caught:
                desk.say(command)
            self.assertIs(type(caught.exception), error)
            for name, value in attributes.items():
                self.assertEqual(getattr(caught.exception, name), value)
            self.assertEqual(state_of(desk), state)


class Begin(Case):
    def test_no_live_book_at_first(self):
        desk = Desk()
        self.assertIsNone(desk.live)
        self.assertEqual(list(vars(desk)), ["live"])

    def test_only_plan_is_a_command_then(self):
        for command in (
            "meet 3 ann bob", "look 9 dan yes", "look 9 dan no", "since ann", "status ann 3", "first", "undo",
            "since", "plan", "", " ", "hello", None,
        ):
            self.check_raises(Desk(), command, InvalidCommand)

    def test_not_iterable(self):
        for desk in (Desk(), fresh_desk()):
            for call in (iter, list, tuple):
                self.assertRaises(TypeError, call, desk)
            self.assertRaises(TypeError, len, desk)

    def test_two_desks_beside_one_another(self):
        one, other = fresh_desk("look 9 dan yes"), fresh_desk()
        self.assertEqual(one.say("look 9 dan no"), "none")
        self.assertEqual(other.say("since dan"), "possibly 6")
        self.assertEqual(other.say("undo"), "nothing")
        self.assertEqual(one.say("undo"), "undone")
        self.assertEqual(one.say("since dan"), "surely 8")
        self.assertEqual(len(other.live), 0)


class PlanCommand(Case):
    def test_the_number_of_people(self):
        desk = Desk()
        self.assertEqual(desk.say("plan " + TEXT), "4")
        self.assertIsInstance(desk.live, Live)
        self.assertEqual((desk.live.plan, desk.live.looks, len(desk.live)), (example(), (), 0))
        self.assertEqual(desk.say("plan person ann 1 0 -"), "1")
        self.assertEqual(desk.live.plan, Plan([("ann", 1, 0, None)]))
        people = " ; ".join(f"person {name} 1 0 -" for name in "abcdefgh")
        self.assertEqual(desk.say("plan " + people), "8")

    def test_anew_behind_deeds(self):
        desk = fresh_desk("look 9 dan yes", "meet 9 ann dan", "look 9 dan no")
        book = desk.live
        self.assertEqual(desk.say("plan " + TEXT), "4")
        self.assertIsNot(desk.live, book)
        self.assertEqual((desk.live.plan, desk.live.looks, len(desk.live)), (example(), (), 0))
        self.assertEqual(desk.say("undo"), "nothing")
        self.assertEqual((len(book), book.is_possible), (3, False))

    def test_a_sign_between_spaces_is_a_newline(self):
        desk = Desk()
        # From left to right: the second one has no space of its own in front.
        self.check_raises(desk, "plan person ann 1 0 - ; ; meet 3 ann bob", InvalidText, at=1)
        self.check_raises(desk, "plan person ann 1 0 - ; person bob 1 0 - ; ; ; meet 3 ann bob", InvalidText, at=2)
        self.check_raises(desk, "plan person ann 1 0 -; person bob 1 0 -", InvalidText, at=0)
        self.check_raises(desk, "plan person ann 1 0 - ;person bob 1 0 -", InvalidText, at=0)
        # The text begins behind the space, and ends with the command.
        self.check_raises(desk, "plan ; person ann 1 0 -", InvalidText, at=0)
        self.check_raises(desk, "plan person ann 1 0 - ;", InvalidText, at=0)
        self.check_raises(desk, "plan ;", InvalidText, at=0)
        self.assertIsNone(desk.live)

    def test_errors_of_texts_and_plans_leave_all_as_it_was(self):
        for desk in (Desk(), fresh_desk("look 9 dan yes")):
            self.check_raises(desk, "plan x", InvalidText, at=0)
            self.check_raises(desk, "plan plan", InvalidText, at=0)
            self.check_raises(desk, "plan person ann 1 0 - ; meet 3 ann", InvalidText, at=1)
            self.check_raises(desk, "plan person ann 1 0 - ; meet 3 ann bob", InvalidPlan, word="meetings")
            self.check_raises(desk, "plan person ann 1 0 - ; person ann 1 0 -", InvalidPlan, word="people")
            self.check_raises(desk, "plan meet 3 ann bob", InvalidPlan, word="people")
            self.check_raises(desk, "plan person ann 0 0 -", InvalidPlan, word="people")


class Deeds(Case):
    def test_meet(self):
        desk = fresh_desk()
        self.assertEqual(desk.say("meet 7 ann dan"), "5")
        self.assertEqual(desk.say("meet 0 dan ann"), "6")
        self.assertEqual(desk.say("meet 9999999999999999999 dan bob"), "7")
        self.assertEqual(desk.live.plan.meetings, MEETINGS + ((7, "ann", "dan"), (0, "dan", "ann"), (10**19 - 1, "dan", "bob")))

    def test_look(self):
        desk = fresh_desk()
        self.assertEqual(desk.say("look 9 dan yes"), "fits")
        self.assertEqual(desk.say("look 6 ann no"), "fits")
        self.assertEqual(desk.live.looks, ((9, "dan", True), (6, "ann", False)))
        self.assertEqual(desk.say("look 9 cyd no"), "none")
        self.assertEqual(desk.say("look 0 cyd no"), "none")
        self.assertEqual(len(desk.live), 4)

    def test_undo(self):
        desk = fresh_desk()
        self.assertEqual(desk.say("undo"), "nothing")
        desk.say("look 9 dan yes")
        desk.say("meet 7 ann dan")
        self.assertEqual(desk.say("undo"), "undone")
        self.assertEqual((desk.live.plan, desk.live.looks), (example(), LOOKS))
        self.assertEqual(desk.say("undo"), "undone")
        self.assertEqual(desk.live.looks, ())
        self.assertEqual(desk.say("undo"), "nothing")

    def test_errors_of_the_live_book(self):
        desk = fresh_desk("look 9 dan yes", "meet 7 ann dan")
        for command in ("meet 3 ann eve", "meet 3 eve ann", "meet 3 ann ann", "meet 3 x y"):
            self.check_raises(desk, command, Refused, at=5)
        for command in ("look 3 eve yes", "look 3 x no"):
            self.check_raises(desk, command, InvalidLooks, at=1)
        desk.say("look 9 dan no")
        self.check_raises(desk, "look 3 eve yes", InvalidLooks, at=2)

    def test_the_live_book_can_be_used_beside(self):
        desk = fresh_desk()
        desk.live.several([(9, "dan", True), (6, "ann", False)])
        self.assertEqual(desk.say("first"), "ann cyd!")
        told = desk.live.within(lambda book: (desk.say("look 9 cyd no"), desk.say("undo"), desk.say("undo"), desk.say("first")))
        self.assertEqual(told, ("none", "undone", "undone", "ann cyd"))
        self.assertEqual(desk.say("first"), "ann cyd!")
        self.assertEqual(desk.say("undo"), "undone")
        self.assertEqual(desk.live.looks, ())


class Questions(Case):
    def test_since(self):
        desk = fresh_desk("look 9 dan yes")
        self.assertEqual([desk.say("since " + name) for name in NAMES], ["possibly 0", "surely 8", "surely 5", "surely 8"])
        desk.say("look 6 ann no")
        self.assertEqual([desk.say("since " + name) for name in NAMES], ["possibly 4", "surely 8", "surely 4", "surely 6"])
        self.assertEqual(fresh_desk().say("since bob"), "possibly 3")
        self.assertEqual(fresh_desk("look 5 bob no").say("since bob"), "possibly 8")
        self.assertEqual(fresh_desk("look 99 bob no").say("since bob"), "never")
        self.assertEqual(fresh_desk("look 99 dan no", "look 99 bob no").say("since dan"), "never")

    def test_since_on_day_zero(self):
        desk = Desk()
        desk.say("plan person ann 1 0 0 5 ; person bob 1 0 -")
        self.assertEqual((desk.say("since ann"), desk.say("since bob")), ("possibly 0", "never"))
        desk.say("look 0 ann yes")
        self.assertEqual(desk.say("since ann"), "surely 0")

    def test_status(self):
        desk = fresh_desk("look 9 dan yes")
        self.assertEqual([desk.say(f"status dan {day}") for day in (0, 6, 7, 8, 9)], ["not", "not", "open", "open", "able"])
        self.assertEqual(desk.say("status dan 9999999999999999999"), "able")
        self.assertEqual(desk.say("status ann 9999999999999999999"), "open")

    def test_first(self):
        desk = fresh_desk()
        self.assertEqual(desk.say("first"), "ann cyd")
        desk.say("look 9 dan yes")
        self.assertEqual(desk.say("first"), "ann cyd")
        desk.say("look 6 ann no")
        self.assertEqual(desk.say("first"), "ann cyd!")
        desk.say("look 99 ann no")
        self.assertEqual(desk.say("first"), "cyd!")
        self.assertEqual(fresh_desk("look 99 ann no", "look 99 cyd no").say("first"), "nobody")
        desk = Desk()
        desk.say("plan person zoe 1 0 0 5 ; person bob 1 0 - ; person amy 1 0 0 5")
        desk.say("look 9 zoe yes")
        self.assertEqual(desk.say("first"), "amy zoe!")
        desk.say("look 9 amy yes")
        self.assertEqual(desk.say("first"), "amy! zoe!")

    def test_nobody_with_a_span(self):
        desk = Desk()
        desk.say("plan person ann 1 0 - ; person bob 1 0 - ; meet 3 ann bob")
        told = [desk.say(command) for command in ("first", "since ann", "status ann 9", "look 9 ann no")]
        self.assertEqual(told, ["nobody", "never", "not", "fits"])
        self.assertEqual(desk.say("look 9 ann yes"), "none")

    def test_errors_of_what_follows(self):
        desk = fresh_desk("look 9 dan yes")
        for command in ("since eve", "status eve 3"):
            self.check_raises(desk, command, NoName, name="eve")
        desk.say("look 9 dan no")
        for command in ("since dan", "status dan 3", "first"):
            self.check_raises(desk, command, NoWorld)
        # Errors for names come first.
        for command in ("since x", "status x 3"):
            self.check_raises(desk, command, NoName, name="x")
        self.assertEqual((desk.say("meet 3 ann dan"), desk.say("undo"), desk.say("undo")), ("5", "undone", "undone"))
        self.assertEqual(desk.say("since dan"), "surely 8")


class Forms(Case):
    def test_any_value_that_is_no_text(self):
        for value in no_names() + [b"undo", 3]:
            for desk in (Desk(), fresh_desk()):
                self.check_raises(desk, value, InvalidCommand)
        for value in (["undo"], ("undo",), [["first"]], Desk(), Live(example()), example()):
            self.check_raises(fresh_desk(), value, InvalidCommand)

    def test_newlines_and_empty_words(self):
        for command in (
            "undo\n", "\nundo", "first\n", "since\nann", "since ann\n", "plan " + "\n".join(LINES), "plan " + TEXT + "\n",
            "\n", "", " ", "  ", " undo", "undo ", "since  ann", "since ann ", " since ann", "plan  " + TEXT, "plan ",
            "plan " + TEXT + " ", "plan person ann 1 0 -  ; meet 3 ann bob", "meet 3  ann bob", "look 3 ann ",
        ):
            for desk in (Desk(), fresh_desk()):
                self.check_raises(desk, command, InvalidCommand)

    def test_unlike_words(self):
        for command in (
            "plan", "Plan x", "plans x", "plan\tx", "meet", "meet 3", "meet 3 ann", "meet 3 ann bob cyd", "meet ann 3 bob",
            "look", "look 9", "look 9 dan", "look 9 dan Yes", "look 9 dan true", "look 9 dan 1", "look dan 9 yes",
            "look 9 dan yes no", "look 9 dan y", "look 9 yes", "since", "since ann bob", "since 3", "since ann 3",
            "status", "status ann", "status 3 ann", "status ann 3 4", "status ann bob", "first ann", "first 1", "first !",
            "undo 1", "undo undo", "Undo", "undone", "help", "3", "ann", ";", "undo ;", "undo ; undo", "since\tann",
            "look 9 dan yes ;", "meet ; look", "yes", "look 9 dan fits",
        ):
            self.check_raises(fresh_desk("look 9 dan yes"), command, InvalidCommand)

    def test_days(self):
        for word in ("-1", "+1", "01", "00", "1.0", "1_0", "0x1", "a", "", "10000000000000000000", "\u0663", "3 ", "1e3"):
            desk = fresh_desk()
            for command in (f"meet {word} ann bob", f"look {word} ann yes", f"status ann {word}"):
                self.check_raises(desk, command, InvalidCommand)
        for word in ("0", "7", "10", str(FAR), "9999999999999999999"):
            desk = fresh_desk()
            self.assertEqual(desk.say(f"meet {word} ann bob"), "5")
            self.assertEqual(desk.say(f"look {word} bob no"), "fits")
            self.assertIn(desk.say(f"status ann {word}"), ("open", "not"))
            self.assertEqual(desk.live.looks, ((int(word), "bob", False),))

    def test_names(self):
        for word in ("Ann", "annbo", "an1", "a-b", "", "an\u00e4", "3"):
            desk = fresh_desk()
            for command in (
                f"meet 3 {word} bob", f"meet 3 bob {word}", f"look 3 {word} yes", f"since {word}", f"status {word} 3",
            ):
                self.check_raises(desk, command, InvalidCommand)
        desk = Desk()
        desk.say("plan person yes 1 0 0 5 ; person plan 1 0 - ; person meet 1 0 - ; person undo 1 0 -")
        self.assertEqual((desk.say("look 3 yes no"), desk.say("meet 7 plan meet"), desk.say("since undo")), ("fits", "1", "never"))

    def test_forms_come_ahead_of_other_errors(self):
        desk = fresh_desk("look 9 dan yes", "look 9 dan no")
        for command in ("since Eve", "status eve x", "look 3 eve maybe", "meet x ann ann", "first one"):
            self.check_raises(desk, command, InvalidCommand)


class Drawn(Case):
    def test_the_same_as_all_worlds_tell_at_drawn_commands(self):
        rng = random.Random(95)
        kinds = {}
        for plan, worlds, looks in tried_cases(60, seed=96):
            desk = Desk()
            self.assertEqual(desk.say("plan " + str(plan).replace("\n", " ; ")), str(len(plan.people)))
            states = [(plan, [])]
            for number in range(10):
                word = self.drawn_deed(rng, desk, states, looks, worlds)
                kinds[word] = kinds.get(word, 0) + 1
                self.check_questions(rng, desk, *states[-1], worlds, kinds)
        for word in ("fits", "none", "undone", "nothing", "surely", "possibly", "never", "able", "not", "open", "!", "nobody"):
            self.assertGreater(kinds.get(word, 0), 10, kinds)

    def drawn_deed(self, rng, desk, states, looks, worlds):
        """Do a command that is drawn, keep what is to be told behind it, and return a word of the result."""
        plan, seen = states[-1]
        kind = rng.choice(["meet", "look", "look", "look", "undo"])
        if kind == "meet" and len(plan.people) > 1:
            day, a, b = rng.randint(0, 9), *rng.sample(plan.names, 2)
            states.append((plan.further([(day, a, b)]), seen))
            self.assertEqual(desk.say(f"meet {day} {a} {b}"), str(len(plan) + 1))
            return "meet"
        if kind == "undo":
            told = desk.say("undo")
            self.assertEqual(told, "undone" if len(states) > 1 else "nothing")
            del states[max(1, len(states) - 1):]
            return told
        day, name, is_shown = rng.choice(looks) if looks else (rng.randint(0, 9), rng.choice(plan.names), False)
        states.append((plan, seen + [(day, name, is_shown)]))
        told = desk.say(f"look {day} {name} {'yes' if is_shown else 'no'}")
        some = any(not expected_broken(plan, states[-1][1], world) for world in worlds)
        self.assertEqual(told, "fits" if some else "none")
        return told

    def check_questions(self, rng, desk, plan, looks, worlds, kinds):
        """Hold the answers of the desk against all worlds."""
        fitting = [world for world in worlds if not expected_broken(plan, looks, world)]
        name, day = rng.choice(plan.names), rng.randint(0, 14)
        if not fitting:
            for command in ("first", f"since {name}", f"status {name} {day}"):
                self.check_raises(desk, command, NoWorld)
            return
        place = plan.names.index(name)
        days = [expected_since(plan, world)[place] for world in fitting]
        borne = [one for one in days if one is not None]
        told = f"surely {max(days)}" if None not in days else f"possibly {min(borne)}" if borne else "never"
        self.assertEqual(desk.say(f"since {name}"), told)
        able = [one is not None and one + plan.people[place][1] <= day for one in days]
        status = "able" if all(able) else "open" if any(able) else "not"
        self.assertEqual(desk.say(f"status {name} {day}"), status)
        lots = [{first for first, own in world} for world in fitting]
        words = [first + ("!" if first in set.intersection(*lots) else "") for first in sorted(set.union(*lots))]
        self.assertEqual(desk.say("first"), " ".join(words) or "nobody")
        for word in (told.split(" ")[0], status, "!" if "!" in "".join(words) else "no mark", "some" if words else "nobody"):
            kinds[word] = kinds.get(word, 0) + 1


class Calls(Case):
    def test_argument_by_name(self):
        desk = Desk()
        self.assertEqual(desk.say(command="plan " + TEXT), "4")
        self.assertEqual(desk.say(command="first"), "ann cyd")

    def test_the_same_question_twice_with_others_between(self):
        desk = fresh_desk("look 9 dan yes")
        told = [desk.say(command) for command in ("first", "since dan", "status dan 8")]
        for command in ("since ann", "first", "status ann 3"):
            desk.say(command)
        self.assertEqual([desk.say(command) for command in ("first", "since dan", "status dan 8")], told)

    def test_all_worlds_of_the_example(self):
        desk = fresh_desk("look 9 dan yes")
        fitting = [world for world in all_worlds(Plan(PEOPLE, MEETINGS)) if not expected_broken(example(), LOOKS, world)]
        days = [expected_since(example(), world)[3] for world in fitting]
        self.assertEqual(desk.say("since dan"), f"surely {max(days)}")


if __name__ == "__main__":
    unittest.main()

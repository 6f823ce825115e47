"""What holds over the whole program: moved days, other names, arguments by name, and nothing that is kept."""

import inspect
import itertools
import random
import unittest

from firstbore import asking, comparing, cuts, deciding, errors, looks, origins, papers, traces, worlds
from firstbore.desk import Desk
from firstbore.errors import NoWorld
from firstbore.live import Live
from firstbore.plans import Plan
from samples import FAR, LOOKS, MORE, example, random_world, telling_cases, tried_cases

SAME = {name: name for name in ("ann", "bob", "cyd", "dan", "eve")}


class View:
    """A case with all days later by so many and with other names; what is told of it is told back in the old ones."""

    def __init__(self, case, by, names):
        plan, seen, world, other = case
        self.by = by
        self.names = names
        self.old = {new: name for name, new in names.items()}
        self.plan = self.seen_plan(plan)
        self.other = self.seen_plan(other)
        self.looks = [(day + by, names[name], is_shown) for day, name, is_shown in seen]
        self.world = [(names[name], day + by) for name, day in world]

    def seen_plan(self, plan):
        people = []
        for name, wait, show, span in plan.people:
            people.append((self.names[name], wait, show, span and (span[0] + self.by, span[1] + self.by)))
        return Plan(people, [(day + self.by, self.names[a], self.names[b]) for day, a, b in plan.meetings])

    def day(self, day):
        return None if day is None else day - self.by

    def days(self, days):
        return tuple(self.day(day) for day in days)

    def lot(self, lot):
        # Ascending in the new names, so perhaps not in the old ones.
        assert lot == tuple(sorted(lot))
        return tuple(sorted(self.old[name] for name in lot))

    def pairs(self, pairs):
        assert pairs == tuple(sorted(pairs))
        return tuple(sorted((self.old[name], self.day(day)) for name, day in pairs))

    def told_of_worlds(self, name, day):
        plan, world, name, day = self.plan, self.world, self.names[name], day + self.by
        pair = comparing.sooner(plan, self.other)
        return [
            self.days(worlds.since(plan, world)), self.lot(worlds.able(plan, world, day)),
            self.lot(worlds.shows(plan, world, day)), worlds.chain(plan, world, name),
            looks.fits(plan, self.looks, world), looks.broken(plan, self.looks, world),
            cuts.least_cuts(plan, world, name, day), cuts.ways_apart(plan, world, name, day),
            comparing.never_sooner(plan, self.other), comparing.alike(plan, self.other),
            pair and (self.pairs(pair[0]), self.old[pair[1]]),
        ]

    def told_of_all(self, name, day):
        plan, seen, name, day = self.plan, self.looks, self.names[name], day + self.by
        value = papers.paper(plan, seen, name, day)
        lots = origins.least_lots(plan, seen)
        return [
            self.pairs(deciding.greatest(plan, seen)), self.day(deciding.since_possibly(plan, seen, name)),
            self.day(deciding.since_surely(plan, seen, name)), deciding.status(plan, seen, name, day),
            [self.lot(lot) for lot in deciding.first_ones(plan, seen)],
            value and (self.days(value[0]), value[1]), papers.paper_holds(plan, seen, name, day, value),
            sorted((len(lot), self.lot(lot)) for lot in lots), origins.fewest(plan, seen), traces.needed(plan, seen),
            sorted((at, self.old[taker]) for at, taker in traces.brings(plan, seen)),
            asking.results(plan, seen, name, day),
            sorted((self.day(at), self.old[asked]) for at, asked in asking.settling(plan, seen, name, day, [day, day + 2])),
        ]

    def told_by_books(self, name, day):
        desk, live = Desk(), Live(self.plan)
        told = [desk.say("plan " + str(self.plan).replace("\n", " ; "))]
        for at, asked, is_shown in self.looks:
            told += [desk.say(f"look {at} {asked} {'yes' if is_shown else 'no'}"), live.look(at, asked, is_shown)]
        if live.is_possible:
            word, number = (desk.say(f"since {self.names[name]}") + " 0").split(" ")[:2]
            told += [word, word != "never" and int(number) - self.by]
            told += [desk.say(f"status {self.names[name]} {day + self.by}")]
            marked = [word.partition("!") for word in desk.say("first").split(" ")]
            told += [sorted((self.old.get(first, first), mark) for first, mark, rest in marked)]
        return told + [desk.say("undo"), len(live)]

    def told(self, name, day):
        """Return all that the program tells of the case, in the old names and days."""
        rows = [self.told_of_worlds(name, day), self.told_by_books(name, day), deciding.possible(self.plan, self.looks)]
        if rows[-1]:
            rows.append(self.told_of_all(name, day))
        return rows


def whole_cases(many):
    """Return many (plan, looks, world, other plan of the same people), the same ones each time."""
    rng = random.Random(101)
    rows = []
    for plan, all_of, seen in tried_cases(many // 6, seed=102) + telling_cases(many // 2, seed=103):
        other = Plan(plan.people, rng.sample(plan.meetings, len(plan.meetings) - (len(plan) > 0)))
        rows.append((plan, seen, random_world(rng, plan), other))
    return rows


class Moved(unittest.TestCase):
    def check(self, by, names):
        for case in whole_cases(60):
            plan = case[0]
            view, same = View(case, by, names), View(case, 0, SAME)
            for name, day in zip(plan.names, (2, 9, 5, 7, 0)):
                with self.subTest(plan=str(plan), looks=case[1], name=name):
                    self.assertEqual(view.told(name, day), same.told(name, day))

    def test_days_that_are_moved(self):
        for by in (1, 10**17):
            self.check(by, SAME)

    def test_people_with_other_names(self):
        self.check(0, dict(zip(SAME, ("zoe", "yan", "xi", "w", "vera"))))
        self.check(0, dict(zip(SAME, ("b", "zzzz", "a", "cyd", "ann"))))

    def test_both(self):
        self.check(FAR - 40, dict(zip(SAME, ("cyd", "dan", "bob", "eve", "ann"))))


class ByName(unittest.TestCase):
    def rows(self):
        """Return (callable, arguments by name) for all that the interface lists."""
        plan, world = example(), [("ann", 1)]
        live = Live(plan)
        told = dict(plan=plan, looks=LOOKS)
        named = dict(told, name="dan", day=8)
        return [
            (Plan, dict(people=plan.people, meetings=plan.meetings)), (plan.place, dict(name="cyd")),
            (plan.without, dict(ats=[1])), (plan.further, dict(meetings=[(3, "ann", "cyd")])),
            (Plan.read, dict(text=str(plan))), (worlds.since, dict(plan=plan, world=world)),
            (worlds.able, dict(plan=plan, world=world, day=4)), (worlds.shows, dict(plan=plan, world=world, day=4)),
            (worlds.chain, dict(plan=plan, world=world, name="dan")),
            (looks.fits, dict(told, world=world)), (looks.broken, dict(told, world=world)),
            (deciding.possible, told), (deciding.greatest, told), (deciding.first_ones, told),
            (deciding.since_possibly, dict(told, name="dan")), (deciding.since_surely, dict(told, name="dan")),
            (deciding.status, named), (papers.paper, named), (papers.paper_holds, dict(named, value=((2, 5), 0))),
            (origins.least_lots, told), (origins.fewest, told), (traces.needed, told), (traces.brings, told),
            (cuts.least_cuts, dict(plan=plan, world=world, name="dan", day=9)),
            (cuts.ways_apart, dict(plan=plan, world=world, name="dan", day=9)),
            (comparing.never_sooner, dict(p=plan, q=plan.without([1]))), (comparing.sooner, dict(p=plan, q=plan.without([1]))),
            (comparing.alike, dict(p=plan, q=plan.without([1]))), (asking.results, named),
            (asking.settling, dict(named, days=[4, 5])), (live.within, dict(work=len)),
            (lambda **more: live.within(lambda book: book.look(**more)), dict(day=9, name="dan", is_shown=True)),
            (lambda **more: live.within(lambda book: book.several(**more)), dict(looks=MORE)),
            (lambda **more: live.within(lambda book: book.meet(**more)), dict(day=9, a="dan", b="ann")),
            (Live, dict(plan=plan)), (Desk().say, dict(command="plan " + str(plan).replace("\n", " ; "))),
        ]

    def test_any_order(self):
        for call, named in self.rows():
            told = [call(**dict(order)) for order in itertools.permutations(named.items())]
            if call != Live:
                self.assertEqual(told, [told[0]] * len(told))

    def test_by_place_tells_the_same(self):
        for call, named in self.rows():
            names = list(named)
            if call != Live and inspect.signature(call).parameters.keys() == named.keys():
                self.assertEqual(names, list(inspect.signature(call).parameters))
                self.assertEqual(call(*named.values()), call(**named))

    def test_errors_by_name(self):
        for name, parameters in [
            ("InvalidPlan", ["word"]), ("InvalidText", ["at"]), ("InvalidWorld", ["at"]), ("InvalidLooks", ["at"]),
            ("Refused", ["at"]), ("NoName", ["name"]),
        ]:
            for value in (3, "x", None, [1], example()):
                error = getattr(errors, name)(**{parameter: value for parameter in parameters})
                self.assertIs(getattr(error, parameters[0]), value)


class NothingIsKept(unittest.TestCase):
    def test_the_same_calls_again_behind_all_others(self):
        cases = whole_cases(24)
        first = [View(case, 0, SAME).told(case[0].names[0], 6) for case in cases]
        again = [View(case, 0, SAME).told(case[0].names[0], 6) for case in reversed(cases)]
        self.assertEqual(first, again[::-1])

    def test_plans_and_arguments_stay_as_they_are(self):
        for plan, seen, world, other in whole_cases(24):
            texts, looks_then, world_then = (str(plan), str(other)), list(seen), list(world)
            view = View((plan, seen, world, other), 0, SAME)
            view.plan, view.other, view.looks, view.world = plan, other, seen, world
            view.told(plan.names[-1], 7)
            self.assertEqual((str(plan), str(other)), texts)
            self.assertEqual((seen, world), (looks_then, world_then))

    def test_no_world_is_told_alike_by_all(self):
        plan = example()
        seen = LOOKS + ((9, "dan", False),)
        for call in (
            lambda: deciding.greatest(plan, seen), lambda: deciding.since_possibly(plan, seen, "ann"),
            lambda: deciding.since_surely(plan, seen, "ann"), lambda: deciding.status(plan, seen, "ann", 3),
            lambda: deciding.first_ones(plan, seen), lambda: papers.paper(plan, seen, "ann", 3),
            lambda: origins.least_lots(plan, seen), lambda: origins.fewest(plan, seen),
            lambda: traces.needed(plan, seen), lambda: traces.brings(plan, seen),
            lambda: asking.results(plan, seen, "ann", 3), lambda: asking.settling(plan, seen, "ann", 3, [3]),
        ):
            self.assertRaises(NoWorld, call)
        self.assertIs(deciding.possible(plan, seen), False)
        self.assertIs(looks.fits(plan, seen, []), False)
        self.assertIs(papers.paper_holds(plan, seen, "ann", 3, None), False)


if __name__ == "__main__":
    unittest.main()

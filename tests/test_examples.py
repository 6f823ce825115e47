"""The document's own examples, as they stand there, and those of README.md."""

import doctest
import pathlib
import unittest

from firstbore.asking import results, settling
from firstbore.comparing import never_sooner, sooner
from firstbore.cuts import least_cuts, ways_apart
from firstbore.deciding import first_ones, greatest, since_possibly, since_surely, status
from firstbore.desk import Desk
from firstbore.looks import broken, fits
from firstbore.origins import fewest, least_lots
from firstbore.papers import paper, paper_holds
from firstbore.plans import Plan
from firstbore.traces import brings, needed
from firstbore.worlds import able, chain, since
from samples import LINES, MEETINGS, PEOPLE


class Examples(unittest.TestCase):
    def setUp(self):
        lines = ["person ann 2 3 0 9", "person bob 1 1 -", "person cyd 2 2 4 9", "person dan 1 0 -"]
        lines = lines + ["meet 3 ann bob", "meet 5 bob cyd", "meet 6 cyd dan", "meet 8 bob dan"]
        self.plan = Plan.read("\n".join(lines))
        self.looks = [(9, "dan", True)]
        self.more = self.looks + [(6, "ann", False)]

    def test_plan(self):
        self.assertEqual((self.plan.people, self.plan.meetings), (PEOPLE, MEETINGS))
        self.assertEqual(str(self.plan), "\n".join(LINES))

    def test_deciding(self):
        plan, looks, more = self.plan, self.looks, self.more
        told = (
            greatest(plan, looks), since_possibly(plan, looks, "dan"), since_surely(plan, looks, "dan"),
            first_ones(plan, looks),
        )
        self.assertEqual(told, ((("ann", 0), ("cyd", 4)), 6, 8, ((), ("ann", "cyd"))))
        told = (
            greatest(plan, more), since_surely(plan, more, "dan"), first_ones(plan, more),
            status(plan, more, "cyd", 5),
        )
        self.assertEqual(told, ((("ann", 4), ("cyd", 4)), 6, (("cyd",), ("ann", "cyd")), "not"))

    def test_looks(self):
        plan, more = self.plan, self.more
        told = fits(plan, more, [("cyd", 4)]), broken(plan, more, (("ann", 1),)), broken(plan, more, [("cyd", 5)])
        self.assertEqual(told, (True, (1,), (0,)))

    def test_papers(self):
        plan, looks = self.plan, self.looks
        told = (
            paper(plan, looks, "dan", 8), paper(plan, looks, "dan", 7),
            paper_holds(plan, looks, "dan", 8, ((2, 5), 0)),
        )
        self.assertEqual(told, (((2, 5), 0), None, True))

    def test_origins_and_traces(self):
        plan, looks, more = self.plan, self.looks, self.more
        told = least_lots(plan, looks), fewest(plan, more), needed(plan, looks), needed(plan, more)
        self.assertEqual(told, ((("ann",), ("cyd",)), 1, (), (2,)))
        told = brings(plan, looks), brings(plan, more)
        self.assertEqual(
            told, (((0, "bob"), (1, "cyd"), (2, "dan"), (3, "bob"), (3, "dan")), ((2, "dan"), (3, "bob")))
        )

    def test_cuts(self):
        plan, world = self.plan, [("ann", 0), ("cyd", 4)]
        told = least_cuts(plan, world, "dan", 9), ways_apart(plan, world, "dan", 9)
        self.assertEqual(told, (((0, 2), (2, 3)), 2))

    def test_comparing(self):
        plan = self.plan
        told = (
            never_sooner(plan.without([1]), plan), never_sooner(plan, plan.without([1])),
            sooner(plan, plan.without([1]))[1],
        )
        self.assertEqual(told, (True, False, "cyd"))

    def test_asking(self):
        plan, looks = self.plan, self.looks
        told = results(plan, looks, "bob", 5), results(plan, looks, "cyd", 5), settling(plan, looks, "bob", 3, [4, 5])
        self.assertEqual(told, ((False, True), (False,), ((4, "ann"), (4, "bob"), (5, "bob"))))

    def test_desk(self):
        desk = Desk()
        told = (
            desk.say("plan " + str(self.plan).replace("\n", " ; ")), desk.say("look 9 dan yes"), desk.say("since dan"),
            desk.say("first"), desk.say("look 6 ann no"), desk.say("first"),
        )
        self.assertEqual(told, ("4", "fits", "surely 8", "ann cyd", "fits", "ann cyd!"))
        told = (
            desk.say("since ann"), desk.say("status ann 6"), desk.say("look 9 cyd no"), desk.say("undo"),
            desk.say("meet 7 ann dan"),
        )
        self.assertEqual(told, ("possibly 4", "open", "none", "undone", "5"))

    def test_worlds(self):
        plan = self.plan
        told = since(plan, [("ann", 1)]), able(plan, [("ann", 1)], 6), chain(plan, [("ann", 1)], "dan")
        self.assertEqual(told, ((1, 3, 5, 8), ("ann", "bob"), (0, 3)))

    def test_what_section_1_tells(self):
        plan = self.plan
        self.assertEqual(since(plan, [("ann", 0)]), (0, 3, 5, 8))
        self.assertEqual(since(plan, [("cyd", 4)])[3], 6)
        self.assertEqual(since(plan, [("ann", 4)])[1], None)

    def test_readme(self):
        readme = pathlib.Path(__file__).parent.parent / "README.md"
        told = doctest.testfile(str(readme), module_relative=False)
        self.assertGreater(told.attempted, 0)
        self.assertEqual(told.failed, 0)


if __name__ == "__main__":
    unittest.main()

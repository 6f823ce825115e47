"""The section "The interface": files, names, parameter names, and where each thing is defined."""

import ast
import inspect
import pathlib
import unittest

from firstbore import asking, comparing, cuts, deciding, errors, looks, origins, papers, plans, traces, worlds
from firstbore.desk import Desk
from firstbore.live import Live
from firstbore.plans import Plan
from samples import example

PACKAGE = pathlib.Path(plans.__file__).parent


class Interface(unittest.TestCase):
    def check_parameters(self, called, *names):
        self.assertEqual(tuple(inspect.signature(called).parameters), names)

    def test_package_is_empty_but_for_a_docstring(self):
        body = ast.parse((PACKAGE / "__init__.py").read_text()).body
        self.assertEqual(len(body), 1)
        self.assertIsInstance(body[0], ast.Expr)
        self.assertIsInstance(body[0].value.value, str)

    def test_errors(self):
        for name, parameters in [
            ("InvalidPlan", ["word"]), ("InvalidText", ["at"]), ("InvalidWorld", ["at"]), ("InvalidLooks", ["at"]),
            ("Refused", ["at"]), ("NoName", ["name"]),
        ]:
            self.assertEqual(getattr(errors, name).__module__, "firstbore.errors")
            self.check_parameters(getattr(errors, name), *parameters)
        for name in ("BoreError", "InvalidCommand", "NoWorld"):
            self.assertEqual(getattr(errors, name).__module__, "firstbore.errors")

    def check_functions(self, module, *rows):
        for name, *parameters in rows:
            # Defined in this very file, not imported into it.
            self.assertEqual(getattr(module, name).__module__, module.__name__)
            self.check_parameters(getattr(module, name), *parameters)

    def test_worlds(self):
        self.check_functions(
            worlds,
            ("since", "plan", "world"),
            ("able", "plan", "world", "day"),
            ("shows", "plan", "world", "day"),
            ("chain", "plan", "world", "name"),
        )

    def test_looks(self):
        self.check_functions(looks, ("fits", "plan", "looks", "world"), ("broken", "plan", "looks", "world"))

    def test_deciding(self):
        self.check_functions(
            deciding,
            ("possible", "plan", "looks"),
            ("greatest", "plan", "looks"),
            ("since_possibly", "plan", "looks", "name"),
            ("since_surely", "plan", "looks", "name"),
            ("status", "plan", "looks", "name", "day"),
            ("first_ones", "plan", "looks"),
        )

    def test_papers(self):
        self.check_functions(
            papers, ("paper", "plan", "looks", "name", "day"), ("paper_holds", "plan", "looks", "name", "day", "value")
        )

    def test_origins(self):
        self.check_functions(origins, ("least_lots", "plan", "looks"), ("fewest", "plan", "looks"))

    def test_traces(self):
        self.check_functions(traces, ("needed", "plan", "looks"), ("brings", "plan", "looks"))

    def test_cuts(self):
        self.check_functions(
            cuts, ("least_cuts", "plan", "world", "name", "day"), ("ways_apart", "plan", "world", "name", "day")
        )

    def test_comparing(self):
        self.check_functions(comparing, ("never_sooner", "p", "q"), ("sooner", "p", "q"), ("alike", "p", "q"))

    def test_asking(self):
        self.check_functions(
            asking, ("results", "plan", "looks", "name", "day"), ("settling", "plan", "looks", "name", "day", "days")
        )

    def test_live(self):
        self.assertEqual(Live.__module__, "firstbore.live")
        for name in ("__init__", "plan", "looks", "is_possible", "meet", "look", "several", "undo", "within", "__len__"):
            self.assertIn(name, vars(Live))
        for name in ("plan", "looks", "is_possible"):
            self.assertIsInstance(vars(Live)[name], property)
            self.assertRaises(AttributeError, setattr, Live(example()), name, None)
        live = Live(example())
        self.check_parameters(Live, "plan")
        self.check_parameters(live.meet, "day", "a", "b")
        self.check_parameters(live.look, "day", "name", "is_shown")
        self.check_parameters(live.several, "looks")
        self.check_parameters(live.undo)
        self.check_parameters(live.within, "work")

    def test_desk(self):
        self.assertEqual(Desk.__module__, "firstbore.desk")
        self.assertIn("say", vars(Desk))
        self.assertIn("live", vars(Desk()))
        self.check_parameters(Desk)
        self.check_parameters(Desk().say, "command")

    def test_plan(self):
        self.assertEqual(Plan.__module__, "firstbore.plans")
        for name in ("__init__", "place", "without", "further", "read", "names", "__len__", "__eq__", "__str__"):
            self.assertIn(name, vars(Plan))
        self.assertIsInstance(vars(Plan)["names"], property)
        self.assertIsInstance(vars(Plan)["read"], classmethod)
        self.check_parameters(Plan, "people", "meetings")
        self.check_parameters(example().place, "name")
        self.check_parameters(example().without, "ats")
        self.check_parameters(example().further, "meetings")
        self.check_parameters(Plan.read, "text")
        self.assertEqual(inspect.signature(Plan).parameters["meetings"].default, ())

    def test_attributes_are_set_at_once(self):
        for name in ("people", "meetings"):
            self.assertIn(name, vars(example()))


if __name__ == "__main__":
    unittest.main()

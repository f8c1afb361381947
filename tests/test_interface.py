"""The interface: the names and the parameters that stand in the document, and methods that stand in their class itself."""

import importlib
import inspect
import unittest

ROWS = "sleep=('still', 'shut', 'save', 'dark'), wake=('lit', 'reset', 'back', 'open', 'go')"
FUNCTIONS = {
    "names.is_integer": "(value)", "names.is_name": "(value)", "names.is_lead": "(value)", "names.is_words": "(value, words)",
    "dark.dark_isles": "(chip, away)", "dark.dusty": "(lead, dark)", "dark.way": "(chip, away, name)",
    "dark.under": "(chip, *names)", "dark.dusty_leads": "(chip, away)",
    "walks.along": "(chip, name, *, begins, dark=(), shut=(), held=())", "walks.walk": "(chip, name, state)",
    "walks.source": "(chip, name, state)",
    "needs.sleepless": "(chip)", "needs.reasons": "(chip)", "needs.lets_reasons": "(chip, thing)",
    "keepers.own_states": "(isle)",
    "marks.begin": "(chip)", "marks.events_from": "(chip, state)", "marks.step": "(chip, state, event)",
    "marks.bad_moments": "(chip, state)", "marks.is_bad": "(chip, state, question)",
    "machines.parted": "(chip, events, *, logic=None, start=None, dust=None)",
    "cones.cone": "(chip, question)", "cones.full": "(chip, question)", "cones.reads": "(chip, question, name)",
    "stands.first_stand": "(chip, question, name)", "stands.group": "(chip, question, name, stand)",
    "stands.next_stands": "(chip, question, name, stand)", "stands.stands": "(chip, question, name)",
    "stands.label": "(chip, question, name, stand)",
    "faces.face": "(chip, question, name)", "faces.fits": "(chip, question, isle)",
    "tables.first_row": "(chip, question)", "tables.next_rows": "(chip, question, row)", "tables.is_bad": "(chip, question, row)",
    "tables.rows_by_steps": "(chip, question)", "tables.least_table": "(chip, question, *, most=20000)",
    "judge.judged": "(chip, question, *, most=20000)", "shortest.shortest": "(chip, question, *, most=20000)",
    "shortest.whole_run": "(chip, question, events)", "runcheck.lets_run": "(chip, question, thing)",
    "tablecheck.lets_table": "(chip, question, thing)",
    "verdict.verdict": "(chip, *, most=20000)", "verdict.lets_verdict": "(chip, thing)", "verdict.is_safe": "(chip, *, most=20000)",
    "orders.ordered": "(chip, name, order)", "orders.lets_orders": "(chip, name, thing)",
    "spots.spots": "(chip)", "spots.propped": "(chip, *spots)",
    "mends.mends": "(chip, *spots)", "mends.mending": "(chip)", "mends.clauses": "(chip)", "mends.fewest": "(chip)",
    "mends.mend_paper": "(chip)", "mends.lets_mends": "(chip, thing)",
    "rests.rested": "(chip, *names)", "rests.may_sleep": "(chip, *names)", "rests.sleepers": "(chip, *first)", "rests.greatest": "(chip)",
    "hearing.is_heard": "(chip, state, name)", "hearing.hearing": "(chip, name, *, most=20000)", "hearing.lets_hearing": "(chip, name, thing)",
    "conductor.lets_guide": "(chip, thing)", "conductor.lets_refusal": "(chip, state, thing)",
    "texts.write_chip": "(chip)", "texts.read_chip": "(text)", "texts.write_events": "(events)", "texts.read_events": "(text)",
}
HANDED = {"handed": "(self, mark, *, dark, dusty, shut, held)", "propped": "(self, *, on=False, line=())"}
MACHINE = {"registers": "(self, name)", "taken": "(self, name)", "do": "(self, *events)"}
CLASSES = {
    "isles.Isle": {"__init__": f"(self, name, *, kept=1, plain=1, leash=(), needs=(), sleeps=True, {ROWS}, turns=())",
                   "changed": "(self, **parts)", "__eq__": "(self, other)", "__repr__": "(self)"},
    "stations.Station": HANDED,
    "stations.Pass": {"__init__": "(self, on)", **HANDED},
    "stations.Clamp": {"__init__": "(self, on, owner, *, gives=0, line=())", **HANDED},
    "stations.Holding": {"__init__": "(self, on, owner, *, line=())", **HANDED},
    "wires.Wire": {"__init__": "(self, name, driver, reader, *stations)", "of": "(name, driver, reader, stations)",
                   "__len__": "(self)", "owners": "(self)", "lines": "(self)", "places": "(self)", "__eq__": "(self, other)",
                   "__repr__": "(self)"},
    "chips.Chip": {"__init__": "(self, *isles, wires=(), shore=1)", "wire": "(self, name)", "__contains__": "(self, name)",
                   "__getitem__": "(self, at)", "__len__": "(self)", "__eq__": "(self, other)", "__repr__": "(self)",
                   "with_isles": "(self, *isles)", "with_wires": "(self, *wires)", "without_wires": "(self, *names)",
                   "__or__": "(self, other)", "renamed": "(self, names)", "of": "(isles, wires=(), shore=1)", "read": "(text)",
                   "__str__": "(self)"},
    "needs.Sleepers": {"__init__": "(self, chip, *names)", "of": "(chip, names)", "__contains__": "(self, name)",
                       "__len__": "(self)", "joined": "(self, other)", "common": "(self, other)", "within": "(self, other)",
                       "__eq__": "(self, other)", "order": "(self)", "deeds": "(self)", "every": "(chip)", "widest": "(chip)"},
    "keepers.Keeper": {"__init__": "(self, isle)", "set_own": "(self, value)", "options": "(self)", "__call__": "(self, event)",
                       "do": "(self, *events)"},
    "weaves.Weave": {"__init__": "(self, chip)", "of": "(chip, events)", "do": "(self, *events)", "undo": "(self, count=1)",
                     "trial": "(self)", "on_trial": "(self, work)", "__call__": "(self, event)", "__contains__": "(self, event)",
                     "__len__": "(self)", "states": "(self)", "twin": "(self)", "__eq__": "(self, other)"},
    "logics.Logic": {"__call__": "(self, name, registers, taken)"}, "logics.Counting": {"__call__": "(self, name, registers, taken)"},
    "logics.Adding": {"__call__": "(self, name, registers, taken)"},
    "logics.Mixing": {"__init__": "(self, a, b, c, *, modulus=97)", "__call__": "(self, name, registers, taken)"},
    "machines.Machine": MACHINE,
    "machines.Still": {"__init__": "(self, chip, logic=None, *, start=None)", **MACHINE},
    "machines.Dusk": {"__init__": "(self, chip, logic=None, *, start=None, dust=None)", "shadow": "(self, name)", **MACHINE},
    "orders.Orders": {"__init__": "(self, chip, name)", "__len__": "(self)", "__contains__": "(self, order)", "every_safe": "(self)",
                      "run": "(self, pair)", "reason": "(self)", "paper": "(self)"},
    "conductor.Conductor": {"__init__": "(self, chip, *, most=20000)", "__len__": "(self)", "__contains__": "(self, value)",
                            "allowed": "(self, state)", "move": "(self, value)", "do": "(self, *events)", "guide": "(self)", "home": "(self)",
                            "refusal": "(self, state)", "trial": "(self)", "on_trial": "(self, work)"},
    "book.Book": {"__init__": "(self, chip)", "change": "(self, work)", "rest": "(self, *names)", "rouse": "(self, *names)",
                  "undo": "(self, count=1)", "redo": "(self, count=1)", "trial": "(self)", "on_trial": "(self, work)", "__len__": "(self)",
                  "__eq__": "(self, other)"},
    "desk.Desk": {"__init__": "(self)", "say": "(self, line)", "say_all": "(self, *lines)"},
}
PROPERTIES = {
    "isles.Isle": "name kept plain leash needs sleeps sleep wake turns size", "stations.Station": "on owner gives line",
    "stations.Pass": "on owner gives line", "stations.Clamp": "on owner gives line", "stations.Holding": "on owner gives line",
    "wires.Wire": "name driver reader stations", "chips.Chip": "names wires shore questions", "needs.Sleepers": "chip names",
    "keepers.Keeper": "isle post flags own", "weaves.Weave": "chip events state moments first",
    "machines.Machine": "chip moment state ticking", "machines.Still": "chip moment state ticking",
    "machines.Dusk": "chip moment state ticking", "orders.Orders": "candidates pairs", "conductor.Conductor": "present",
    "book.Book": "present", "desk.Desk": "chip",
}
ASSIGNED = [("keepers.Keeper", "own"), ("conductor.Conductor", "present"), ("book.Book", "present")]
GENERATORS = {"dark": ["dusty_leads"], "marks": ["events_from"], "stands": ["stands"], "tables": ["rows_by_steps"], "rests": ["greatest"],
              "weaves.Weave": ["states"], "orders.Orders": ["every_safe"], "conductor.Conductor": ["allowed"], "desk.Desk": ["say_all"]}


def thing_of(name):
    module, part = name.split(".")
    return getattr(importlib.import_module("duskisles." + module), part)


class InterfaceTest(unittest.TestCase):

    def test_functions(self):
        for name, told in FUNCTIONS.items():
            self.assertEqual(str(inspect.signature(thing_of(name))), told, name)

    def test_methods(self):
        for name, methods in CLASSES.items():
            for method, told in methods.items():
                self.assertIn(method, vars(thing_of(name)), name)
                self.assertEqual(str(inspect.signature(getattr(thing_of(name), method))), told, (name, method))

    def test_properties(self):
        for name, properties in PROPERTIES.items():
            for each in properties.split():
                self.assertIsInstance(vars(thing_of(name)).get(each), property, (name, each))
                self.assertEqual(vars(thing_of(name))[each].fset is not None, (name, each) in ASSIGNED, (name, each))

    def test_generators(self):
        for name, generators in GENERATORS.items():
            for each in generators:
                self.assertTrue(inspect.isgeneratorfunction(getattr(thing_of(name), each) if "." in name else thing_of(f"{name}.{each}")), each)

    def test_class_values(self):
        self.assertEqual((thing_of("conductor.Conductor").MOST, thing_of("book.Book").MOST), (20000, 50))
        self.assertEqual((thing_of("isles.Isle").SLEEP, thing_of("isles.Isle").WAKE),
                         (("still", "shut", "save", "dark"), ("lit", "reset", "back", "open", "go")))

    def test_everything_is_defined_in_its_own_file(self):
        for name in [*FUNCTIONS, *CLASSES]:
            self.assertEqual(thing_of(name).__module__, "duskisles." + name.split(".")[0])


if __name__ == "__main__":
    unittest.main()

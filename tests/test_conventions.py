"""The conventions [0.1] to [0.6], and the interface: names, arguments, files."""

import importlib
import inspect
import unittest

from teamtells.base.kinds import Kind, beside, cut_kind, image_of, is_map, is_name
from teamtells.base.made import flag_kind
from teamtells.errors import InvalidNumber, InvalidOperation, UnknownName
from teamtells.plans.plans import Plan
from tests.cases import Case, shown, values

FUNCTIONS = {
    "teamtells.base.kinds": {
        "is_name": "(value)", "beside": "(one, other)", "cut_kind": "(kind, state)", "is_map": "(kind, other, value)",
        "image_of": "(kind)",
    },
    "teamtells.base.made": {
        "cell_kind": "(many)", "flag_kind": "()", "adder_kind": "(many)", "swap_kind": "(many)",
        "slot_kind": "(many)", "fading_kind": "(many)", "queue_kind": "(many)", "highest_kind": "(many)",
    },
    "teamtells.plans.telling": {
        "seen_by": "(plan, thread, team)", "tells": "(plan)", "confusion": "(plan)", "is_confusion": "(plan, value)",
        "first_team": "(plan, thread, answer, state)", "states_behind": "(plan, team)", "records": "(plan)",
        "mixture": "(plan)", "is_mixture": "(plan, value)",
    },
    "teamtells.search.found": {
        "candidates": "(kind, threads)", "count_candidates": "(kind, threads)", "telling_plans": "(kind, threads)",
        "first_plan": "(kind, threads)", "can_agree": "(kind, threads)", "plan_paper": "(kind, threads)",
        "is_plan_paper": "(kind, threads, value)", "greatest_plans": "(kind, threads)",
    },
    "teamtells.search.levels": {
        "endless_plans": "(kind)", "is_endless": "(kind)", "endless_confusion": "(kind, start, one, other)",
        "is_endless_confusion": "(kind, start, one, other, value)", "level_of": "(kind, *, most=4)",
        "level_paper": "(kind, *, most=4)", "is_level_paper": "(kind, value, *, most=4)",
    },
    "teamtells.systems.programs": {"is_rows": "(value)", "is_system": "(objects, value)"},
    "teamtells.systems.runs": {
        "is_configuration": "(system, value)", "first_configuration": "(system, inputs)",
        "next_configuration": "(system, configuration, thread)",
    },
    "teamtells.systems.checks": {
        "reached_moments": "(system, inputs, *, restarts=False)", "is_right": "(system, *, restarts=False)",
        "found_fault": "(system, *, restarts=False)", "is_fault": "(system, value, *, restarts=False)",
        "right_paper": "(system, *, restarts=False)", "is_right_paper": "(system, value, *, restarts=False)",
        "longest": "(system)",
    },
    "teamtells.systems.critical": {
        "decisions_ahead": "(system, inputs, way)", "is_open": "(system, inputs, way)",
        "is_critical": "(system, inputs, way)", "critical_way": "(system)", "is_critical_way": "(system, value)",
        "plan_at": "(system, inputs, way)",
    },
    "teamtells.make.makers": {
        "made_system": "(plan)", "lasting_system": "(plan)", "agreeing_system": "(kind, threads)",
        "is_made_of": "(system, value)",
    },
    "teamtells.make.changes": {
        "without_thread": "(system, thread)", "reordered": "(system, objects, threads)",
        "pulled_back": "(system, index, kind, state, value)", "shortened": "(system)", "spread": "(system)",
    },
    "teamtells.sets.sets": {
        "best_level": "(kinds, *, most=4)", "level_classes": "(kinds, *, most=4)",
        "can_agree_by": "(kinds, threads)", "sufficient": "(kinds, threads)", "agreement_paper": "(kinds, threads)",
        "is_agreement_paper": "(kinds, threads, value)", "hopeless_paper": "(system)",
        "is_hopeless_paper": "(system, value)",
    },
    "teamtells.text.texts": {
        "write_kind": "(kind)", "write_plan": "(plan)", "write_program": "(program)", "read_kind": "(text)",
        "read_plan": "(kind, text)", "read_program": "(text)",
    },
}
CLASSES = {
    "teamtells.base.kinds": {"Kind": (
        "(operations)", ("operations", "names", "size"), ("__contains__", "__len__", "__eq__", "__str__"),
        {
            "after": "(self, state, name)", "answers": "(self, name)", "reached": "(self, state)",
            "with_operation": "(self, name, row)", "without": "(self, name)", "renamed": "(self, names)",
            "turned": "(self, numbers)", "silent": "(self)",
        },
    )},
    "teamtells.plans.plans": {"Plan": (
        "(kind, start, first, second)", ("kind", "start", "teams", "threads"), ("__len__", "__eq__", "__str__"),
        {
            "team_of": "(self, thread)", "is_order": "(self, value)", "orders": "(self, *, team=None)",
            "played": "(self, order)", "fewer": "(self, thread)", "more": "(self, team, name)",
            "exchanged": "(self)", "normal": "(self)", "is_normal": "(self)", "renamed": "(self, names)",
            "turned": "(self, numbers)", "mapped": "(self, other, value)",
        },
    )},
    "teamtells.plans.telling": {"Watch": (
        "(plan)", ("order", "state"), ("__len__", "__eq__", "__str__"),
        {
            "go": "(self, thread)", "told": "(self, thread)", "undo": "(self, *, many=1)", "twin": "(self)",
        },
    )},
    "teamtells.systems.programs": {
        "Program": (
            "(rows, starts)", ("rows", "starts"), ("__len__", "__eq__", "__str__"),
            {
                "row": "(self, index)", "rows_from": "(self, index)", "with_row": "(self, index, row)",
                "opposite": "(self)", "on": "(self, numbers)",
            },
        ),
        "System": (
            "(objects, programs)", ("objects", "programs", "rows"), ("__len__", "__eq__", "__str__"),
            {
                "objects_of": "(self, thread)", "with_program": "(self, thread, program)", "opposite": "(self)",
            },
        ),
    },
    "teamtells.systems.runs": {"Run": (
        "(system, inputs)",
        ("system", "inputs", "configuration", "trail", "replies", "active", "decisions", "decided"),
        ("__bool__", "__len__", "__eq__", "__str__"),
        {
            "go": "(self, thread)", "restart": "(self, thread)", "alone": "(self, thread, *, most=100)",
            "follow": "(self, deeds)", "undo": "(self, *, many=1)", "twin": "(self)",
        },
    )},
    "teamtells.sets.sets": {"Choice": (
        "(threads)", ("kinds", "goal", "leader"), ("__bool__", "__len__", "__eq__", "__str__"),
        {
            "put": "(self, kind)", "drop": "(self, index)", "undo": "(self, *, many=1)", "twin": "(self)",
        },
    )},
    "teamtells.desk.desk": {"Desk": (
        "()", ("kinds", "grades", "pins"),
        ("__getitem__", "__contains__", "__iter__", "__len__", "__eq__", "__str__"),
        {
            "enter": "(self, name, kind)", "remove": "(self, name)", "cut_off": "(self, name, operation)",
            "hush": "(self, name)", "put_beside": "(self, name, one, other)", "pin": "(self, pin)",
            "unpin": "(self, pin)", "trial": "(self, *changes)", "undo": "(self, *, many=1)",
            "redo": "(self, *, many=1)", "twin": "(self)",
        },
    )},
    "teamtells.text.shell": {"Shell": (
        "()", (), ("__call__", "__len__", "__str__"), {"__call__": "(self, command)", "desk": "(self)"},
    )},
}
CONSTANTS = {
    "teamtells.plans.plans": {"MAX_THREADS": 6},
    "teamtells.search.found": {"MAX_CANDIDATES": 20000},
    "teamtells.systems.programs": {"MAX_ROWS": 160, "MAX_OBJECTS": 16, "MAX_RUNNERS": 4},
    "teamtells.systems.checks": {"MAX_MOMENTS": 20000},
    "teamtells.desk.desk": {"MAX_KINDS": 8, "MAX_PINS": 8},
}
GENERATORS = (("teamtells.search.found", "candidates"), ("teamtells.search.found", "telling_plans"))


def signature(function):
    return str(inspect.signature(function))


class InterfaceTest(Case):
    def test_functions_stand_in_their_files(self):
        for module, functions in FUNCTIONS.items():
            for name, wanted in functions.items():
                function = getattr(importlib.import_module(module), name)
                self.assertEqual((function.__module__, function.__name__), (module, name))
                self.assertEqual((name, signature(function)), (name, wanted))

    def test_classes_have_all_that_is_listed_themselves(self):
        for module, classes in CLASSES.items():
            for name, (made_with, properties, operators, methods) in classes.items():
                found = getattr(importlib.import_module(module), name)
                self.assertEqual((found.__module__, signature(found)), (module, made_with))
                for method, wanted in methods.items():
                    self.assertEqual((method, signature(found.__dict__[method])), (method, wanted))
                for attribute in properties:
                    self.assertIsInstance(found.__dict__[attribute], property)
                for operator in operators:
                    self.assertIn(operator, found.__dict__)

    def test_constants(self):
        for module, constants in CONSTANTS.items():
            for name, wanted in constants.items():
                self.same(getattr(importlib.import_module(module), name), wanted)

    def test_generators(self):
        for module, name in GENERATORS:
            self.assertTrue(inspect.isgeneratorfunction(getattr(importlib.import_module(module), name)))
        self.assertTrue(inspect.isgeneratorfunction(Plan.orders))


class SharingTest(Case):
    def setUp(self):
        self.kind = Kind({"add": ((1, 0), (2, 1), (0, 2)), "stay": ((0, 0), (1, 0), (2, 9))})
        self.before = shown(self.kind)

    def tearDown(self):
        self.assertEqual(shown(self.kind), self.before)

    def test_a_passed_dict_can_be_changed_afterwards(self):
        table = {"b": ((0, 0),), "a": ((0, 1),)}
        kind = Kind(table)
        self.same(table, {"b": ((0, 0),), "a": ((0, 1),)})
        table["c"] = ((0, 2),)
        del table["a"]
        table["b"] = ((0, 7),)
        self.same(kind.operations, {"a": ((0, 1),), "b": ((0, 0),)})
        self.same((kind.names, kind.size, len(kind), str(kind)), (("a", "b"), 1, 2, "kind of 1 states: a b"))

    def test_a_passed_renaming_can_be_changed_afterwards(self):
        names = {"add": "plus"}
        renamed = self.kind.renamed(names)
        self.same(names, {"add": "plus"})
        names["stay"] = "wait"
        names.pop("add")
        self.same(renamed.names, ("plus", "stay"))

    def test_returned_operations_can_be_changed(self):
        table = self.kind.operations
        table["new"] = ((0, 0), (0, 0), (0, 0))
        table.pop("add")
        table["stay"] = None
        self.assertEqual(shown(self.kind), self.before)
        self.assertIs("new" in self.kind, False)
        self.same(self.kind.after(0, "add"), (1, 0))
        self.assertIsNot(self.kind.operations, self.kind.operations)

    def test_kinds_made_from_a_kind_share_nothing_with_it(self):
        made_kinds = [
            self.kind.with_operation("new", ((0, 0),) * 3), self.kind.without("add"), self.kind.renamed({}),
            self.kind.turned((0, 1, 2)), self.kind.silent(), cut_kind(self.kind, 0)[0], image_of(self.kind)[0],
            beside(self.kind, flag_kind()),
        ]
        for kind in made_kinds:
            self.assertIsNot(kind, self.kind)
            before = shown(kind)
            kind.operations.clear()
            self.assertEqual(shown(kind), before)

    def test_results_are_tuples(self):
        kind = self.kind
        results = [
            kind.names, kind.after(0, "add"), kind.answers("add"), kind.reached(0), cut_kind(kind, 0),
            cut_kind(kind, 0)[1], image_of(kind), image_of(kind)[1], kind.operations["add"], kind.operations["add"][0],
        ]
        for result in results:
            self.assertIs(result.__class__, tuple)
        self.assertIs(kind.operations.__class__, dict)

    def test_equal_calls_return_equal_results(self):
        for call in (lambda kind: kind.operations, image_of, lambda kind: cut_kind(kind, 1), str, Kind.silent):
            self.assertEqual(shown(call(self.kind)), shown(call(self.kind)))

    def test_refused_calls_change_nothing(self):
        calls = [
            (InvalidNumber, -1, self.kind.after, (-1, "add")),
            (UnknownName, "sub", self.kind.after, (0, "sub")),
            (InvalidOperation, None, self.kind.with_operation, ("new", ((0, 0),))),
            (UnknownName, "new", self.kind.without, ("new",)),
            (InvalidOperation, None, self.kind.renamed, ({"add": "stay"},)),
            (InvalidOperation, None, self.kind.renamed, ({"add": "plus", "stay": "Wait"},)),
            (InvalidOperation, None, self.kind.turned, ((0, 1, 1),)),
            (InvalidOperation, None, beside, (self.kind, self.kind)),
            (InvalidNumber, 3, cut_kind, (self.kind, 3)),
        ]
        for error, kept, call, arguments in calls:
            self.refuses(error, kept, call, *arguments)
            self.assertEqual(shown(self.kind), self.before)

    def test_returned_dicts_have_ascending_keys(self):
        found = [
            self.kind.operations, self.kind.with_operation("aa", ((0, 0),) * 3).operations,
            self.kind.renamed({"add": "zz"}).operations, self.kind.renamed({"add": "stay", "stay": "add"}).operations,
            beside(self.kind, flag_kind()).operations, beside(flag_kind(), self.kind).operations,
        ]
        for table in found:
            self.assertEqual(list(table), sorted(table))

    def test_judges_return_just_true_or_false_for_every_value(self):
        for value in values():
            self.assertIn(shown(is_name(value)), ("True", "False"))
            self.assertIn(shown(is_map(self.kind, self.kind, value)), ("True", "False"))


if __name__ == "__main__":
    unittest.main()

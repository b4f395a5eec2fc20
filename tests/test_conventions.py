"""The conventions [0.1] to [0.6], and the interface: names, arguments, files."""

import inspect
import unittest

from teamtells.base import kinds, made
from teamtells.base.kinds import Kind, beside, cut_kind, image_of, is_map, is_name
from teamtells.base.made import flag_kind
from teamtells.errors import InvalidNumber, InvalidOperation, UnknownName
from tests.cases import Case, shown, values

FUNCTIONS = {
    kinds.is_name: ("value",),
    kinds.beside: ("one", "other"),
    kinds.cut_kind: ("kind", "state"),
    kinds.is_map: ("kind", "other", "value"),
    kinds.image_of: ("kind",),
}
MADE = {
    made.cell_kind: ("many",),
    made.flag_kind: (),
    made.adder_kind: ("many",),
    made.swap_kind: ("many",),
    made.slot_kind: ("many",),
    made.fading_kind: ("many",),
    made.queue_kind: ("many",),
    made.highest_kind: ("many",),
}
METHODS = {
    "after": ("state", "name"),
    "answers": ("name",),
    "reached": ("state",),
    "with_operation": ("name", "row"),
    "without": ("name",),
    "renamed": ("names",),
    "turned": ("numbers",),
    "silent": (),
}


def arguments_of(function):
    return tuple(inspect.signature(function).parameters)


class InterfaceTest(Case):
    def test_functions_stand_in_their_files(self):
        for module, functions in (("teamtells.base.kinds", FUNCTIONS), ("teamtells.base.made", MADE)):
            for function, arguments in functions.items():
                self.assertEqual((function.__module__, arguments_of(function)), (module, arguments))

    def test_the_class_has_its_methods_itself(self):
        self.assertEqual(Kind.__module__, "teamtells.base.kinds")
        self.assertEqual(arguments_of(Kind), ("operations",))
        for name, arguments in METHODS.items():
            self.assertEqual(arguments_of(Kind.__dict__[name]), ("self",) + arguments)
        for name in ("operations", "names", "size"):
            self.assertIsInstance(Kind.__dict__[name], property)
        for name in ("__contains__", "__len__", "__eq__", "__str__"):
            self.assertIn(name, Kind.__dict__)


class SharingTest(Case):
    def setUp(self):
        self.kind = Kind({"add": ((1, 0), (2, 1), (0, 2)), "stay": ((0, 0), (1, 0), (2, 9))})
        self.before = shown(self.kind)

    def tearDown(self):
        self.assertEqual(shown(self.kind), self.before)

    def test_a_passed_dict_can_be_changed_afterwards(self):
        table = {"b": ((0, 0),), "a": ((0, 1),)}
        kind = Kind(table)
        self.same(table, {"b": ((0, 0),), "a": ((0, 1),)})
        table["c"] = ((0, 2),)
        del table["a"]
        table["b"] = ((0, 7),)
        self.same(kind.operations, {"a": ((0, 1),), "b": ((0, 0),)})
        self.same((kind.names, kind.size, len(kind), str(kind)), (("a", "b"), 1, 2, "kind of 1 states: a b"))

    def test_a_passed_renaming_can_be_changed_afterwards(self):
        names = {"add": "plus"}
        renamed = self.kind.renamed(names)
        self.same(names, {"add": "plus"})
        names["stay"] = "wait"
        names.pop("add")
        self.same(renamed.names, ("plus", "stay"))

    def test_returned_operations_can_be_changed(self):
        table = self.kind.operations
        table["new"] = ((0, 0), (0, 0), (0, 0))
        table.pop("add")
        table["stay"] = None
        self.assertEqual(shown(self.kind), self.before)
        self.assertIs("new" in self.kind, False)
        self.same(self.kind.after(0, "add"), (1, 0))
        self.assertIsNot(self.kind.operations, self.kind.operations)

    def test_kinds_made_from_a_kind_share_nothing_with_it(self):
        made_kinds = [
            self.kind.with_operation("new", ((0, 0),) * 3), self.kind.without("add"), self.kind.renamed({}),
            self.kind.turned((0, 1, 2)), self.kind.silent(), cut_kind(self.kind, 0)[0], image_of(self.kind)[0],
            beside(self.kind, flag_kind()),
        ]
        for kind in made_kinds:
            self.assertIsNot(kind, self.kind)
            before = shown(kind)
            kind.operations.clear()
            self.assertEqual(shown(kind), before)

    def test_results_are_tuples(self):
        kind = self.kind
        results = [
            kind.names, kind.after(0, "add"), kind.answers("add"), kind.reached(0), cut_kind(kind, 0),
            cut_kind(kind, 0)[1], image_of(kind), image_of(kind)[1], kind.operations["add"], kind.operations["add"][0],
        ]
        for result in results:
            self.assertIs(result.__class__, tuple)
        self.assertIs(kind.operations.__class__, dict)

    def test_equal_calls_return_equal_results(self):
        for call in (lambda kind: kind.operations, image_of, lambda kind: cut_kind(kind, 1), str, Kind.silent):
            self.assertEqual(shown(call(self.kind)), shown(call(self.kind)))

    def test_refused_calls_change_nothing(self):
        calls = [
            (InvalidNumber, -1, self.kind.after, (-1, "add")),
            (UnknownName, "sub", self.kind.after, (0, "sub")),
            (InvalidOperation, None, self.kind.with_operation, ("new", ((0, 0),))),
            (UnknownName, "new", self.kind.without, ("new",)),
            (InvalidOperation, None, self.kind.renamed, ({"add": "stay"},)),
            (InvalidOperation, None, self.kind.renamed, ({"add": "plus", "stay": "Wait"},)),
            (InvalidOperation, None, self.kind.turned, ((0, 1, 1),)),
            (InvalidOperation, None, beside, (self.kind, self.kind)),
            (InvalidNumber, 3, cut_kind, (self.kind, 3)),
        ]
        for error, kept, call, arguments in calls:
            self.refuses(error, kept, call, *arguments)
            self.assertEqual(shown(self.kind), self.before)

    def test_returned_dicts_have_ascending_keys(self):
        found = [
            self.kind.operations, self.kind.with_operation("aa", ((0, 0),) * 3).operations,
            self.kind.renamed({"add": "zz"}).operations, self.kind.renamed({"add": "stay", "stay": "add"}).operations,
            beside(self.kind, flag_kind()).operations, beside(flag_kind(), self.kind).operations,
        ]
        for table in found:
            self.assertEqual(list(table), sorted(table))

    def test_judges_return_just_true_or_false_for_every_value(self):
        for value in values():
            self.assertIn(shown(is_name(value)), ("True", "False"))
            self.assertIn(shown(is_map(self.kind, self.kind, value)), ("True", "False"))


if __name__ == "__main__":
    unittest.main()

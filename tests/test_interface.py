"""The names of the interface, each in its own file and its own class."""

import importlib
import inspect
import unittest

# Module -> class -> the members that stand in that class itself.
PROPERTIES = {
    "tickets": {
        "Ticket": ("x", "y", "is_up", "is_down"),
        "Row": ("tickets", "begin", "end", "climb"),
    },
    "desks": {
        "Profile": ("numbers", "peak"),
        "Desk": ("tickets", "excess", "lowest", "highest"),
    },
    "plans": {
        "Plan": ("desk", "rows", "climb"),
    },
    "walkers": {
        "Planner": ("walkers",),
    },
    "ends": {
        "EndsPlanner": ("walkers",),
        "RoundPlanner": ("walkers",),
    },
    "groups": {
        "Trip": ("start", "row", "end", "climbed"),
    },
    "live": {
        "LiveDesk": ("desk", "walkers", "log"),
        "PlannedDesk": ("plan",),
    },
}

METHODS = {
    "tickets": {
        "Ticket": ("__init__", "__eq__", "__lt__", "__contains__", "__getitem__", "turned"),
        "Row": ("__init__", "__len__", "__bool__", "__eq__", "__lt__", "__contains__", "__getitem__", "__add__",
                "cut", "turned"),
    },
    "desks": {
        "Profile": ("__init__", "__add__", "__sub__", "__neg__", "__eq__", "__le__", "__lt__", "__contains__",
                    "__getitem__", "turned"),
        "Desk": ("__init__", "__len__", "__bool__", "__eq__", "__le__", "__contains__", "__getitem__", "__add__",
                 "__sub__", "turned"),
    },
    "plans": {
        "Plan": ("__init__", "__len__", "__eq__", "__getitem__"),
    },
    "walkers": {
        "Planner": ("__init__", "__call__"),
    },
    "ends": {
        "EndsPlanner": ("__init__", "__call__", "effort"),
        "RoundPlanner": ("__init__", "__call__"),
    },
    "groups": {
        "Trip": ("__init__", "__len__", "__bool__", "__eq__", "__lt__", "__contains__", "__add__"),
    },
    "live": {
        "LiveDesk": ("__init__", "__len__", "__bool__", "__contains__", "__eq__", "put", "take", "needed", "undo",
                     "desks", "copy"),
        "PlannedDesk": ("__init__",),
    },
    "console": {
        "Console": ("__init__", "run"),
    },
}

CLASS_VALUES = {
    ("tickets", "Ticket", "MAX_HEIGHT"): 30,
    ("desks", "Profile", "GAPS"): 30,
    ("desks", "Desk", "MAX_TICKETS"): 40,
    ("live", "LiveDesk", "MAX_CHANGES"): 60,
}

KINDS = {
    ("desks", "Profile", "level"): classmethod,
    ("desks", "Desk", "of_pairs"): classmethod,
    ("desks", "Desk", "is_desk"): staticmethod,
    ("plans", "Plan", "is_plan"): staticmethod,
}

SIGNATURES = {
    ("tickets", "Ticket"): "(x, y)",
    ("tickets", "Row"): "(*tickets)",
    ("desks", "Profile"): "(*numbers)",
    ("desks", "Desk"): "(*tickets)",
    ("plans", "Plan"): "(desk, *rows)",
    ("plans", "is_round"): "(row)",
    ("walkers", "fewest"): "(desk)",
    ("walkers", "reason_for"): "(desk)",
    ("walkers", "check_reason"): "(desk, answer)",
    ("walkers", "Planner"): "(*, walkers=None)",
    ("ends", "reason_against"): "(desk, begin, end)",
    ("ends", "check_reason_against"): "(desk, begin, end, answer)",
    ("ends", "EndsPlanner"): "(begin, end)",
    ("ends", "RoundPlanner"): "()",
    ("groups", "Trip"): "(start, row, end)",
    ("groups", "group_trips"): "(desk, starts, ends)",
    ("groups", "group_reason"): "(desk, starts, ends)",
    ("groups", "check_group_reason"): "(desk, starts, ends, answer)",
    ("listing", "single_rows"): "(desk)",
    ("listing", "count_rows"): "(desk)",
    ("listing", "row_by_rank"): "(desk, rank)",
    ("listing", "rank_of_row"): "(desk, row)",
    ("listing", "least_climb"): "(desk)",
    ("live", "LiveDesk"): "(*tickets)",
    ("live", "PlannedDesk"): "(*tickets)",
    ("tables", "plan_table"): "(plan)",
    ("tables", "excess_table"): "(desk)",
    ("texts", "desk_text"): "(desk)",
    ("texts", "read_desk"): "(text)",
    ("console", "Console"): "()",
    ("walkers", "Planner", "__call__"): "(self, desk)",
    ("ends", "EndsPlanner", "__call__"): "(self, desk)",
    ("ends", "EndsPlanner", "effort"): "(self, desk)",
    ("ends", "RoundPlanner", "__call__"): "(self, desk)",
    ("tickets", "Ticket", "turned"): "(self)",
    ("tickets", "Row", "turned"): "(self)",
    ("tickets", "Row", "cut"): "(self, number)",
    ("desks", "Profile", "turned"): "(self)",
    ("desks", "Profile", "level"): "(number)",
    ("desks", "Desk", "turned"): "(self)",
    ("desks", "Desk", "of_pairs"): "(*pairs)",
    ("desks", "Desk", "is_desk"): "(*tickets)",
    ("plans", "Plan", "is_plan"): "(desk, *rows)",
    ("live", "LiveDesk", "put"): "(self, *tickets)",
    ("live", "LiveDesk", "take"): "(self, *tickets)",
    ("live", "LiveDesk", "needed"): "(self, *tickets)",
    ("live", "LiveDesk", "undo"): "(self)",
    ("live", "LiveDesk", "desks"): "(self)",
    ("live", "LiveDesk", "copy"): "(self)",
    ("live", "PlannedDesk", "put"): "(self, *tickets)",
    ("live", "PlannedDesk", "take"): "(self, *tickets)",
    ("live", "PlannedDesk", "needed"): "(self, *tickets)",
    ("live", "PlannedDesk", "undo"): "(self)",
    ("live", "PlannedDesk", "desks"): "(self)",
    ("live", "PlannedDesk", "copy"): "(self)",
    ("console", "Console", "run"): "(self, command)",
}


def found(module, *names):
    value = importlib.import_module(f"climbtickets.{module}")
    for name in names:
        value = getattr(value, name)
    return value


def members(table):
    return [(module, name, member) for module in table for name in table[module] for member in table[module][name]]


class InterfaceTest(unittest.TestCase):
    def test_classes_and_functions_are_defined_in_their_files(self):
        for module, name in [key for key in SIGNATURES if len(key) == 2]:
            with self.subTest(module=module, name=name):
                self.assertEqual(found(module, name).__module__, f"climbtickets.{module}")

    def test_properties(self):
        for module, name, member in members(PROPERTIES):
            with self.subTest(name=name, member=member):
                self.assertIsInstance(vars(found(module, name)).get(member), property)

    def test_methods(self):
        for module, name, member in members(METHODS):
            with self.subTest(name=name, member=member):
                self.assertTrue(inspect.isfunction(vars(found(module, name)).get(member)))

    def test_static_and_class_methods(self):
        for (module, name, member), kind in KINDS.items():
            with self.subTest(name=name, member=member):
                self.assertIsInstance(vars(found(module, name)).get(member), kind)

    def test_class_values(self):
        for (module, name, member), value in CLASS_VALUES.items():
            with self.subTest(name=name, member=member):
                self.assertEqual(vars(found(module, name)).get(member), value)

    def test_parameters(self):
        for key, expected in SIGNATURES.items():
            with self.subTest(key):
                self.assertEqual(str(inspect.signature(found(*key))), expected)

    def test_base_classes(self):
        planner = found("walkers", "Planner")
        self.assertEqual(planner.__bases__, (object,))
        self.assertEqual(found("ends", "EndsPlanner").__bases__, (planner,))
        self.assertEqual(found("ends", "RoundPlanner").__bases__, (planner,))
        self.assertEqual(found("groups", "Trip").__bases__, (object,))
        self.assertEqual(found("live", "LiveDesk").__bases__, (object,))
        self.assertEqual(found("live", "PlannedDesk").__bases__, (found("live", "LiveDesk"),))
        self.assertEqual(found("console", "Console").__bases__, (object,))

    def test_module_values(self):
        self.assertEqual(found("listing", "MAX_LISTED"), 7)

    def test_single_rows_yields(self):
        self.assertTrue(inspect.isgeneratorfunction(found("listing", "single_rows")))

    def test_desks_of_a_live_desk_yields(self):
        self.assertTrue(inspect.isgeneratorfunction(found("live", "LiveDesk", "desks")))

    def test_objects_are_not_iterated_over(self):
        for module, name, member in members(METHODS):
            if member == "__getitem__":
                with self.subTest(name=name):
                    self.assertIn("__iter__", vars(found(module, name)))


if __name__ == "__main__":
    unittest.main()

"""The interface: names and how many arguments, taken by place."""

import importlib
import inspect
import unittest

INTERFACE = {
    "runs": {
        "is_note": 1, "is_run": 1, "is_runs": 1, "runs_of": 1, "many_in": 1, "holds": 2, "kth": 2, "place_of": 2,
    },
    "sets": {"together": 2, "both": 2, "less": 2, "is_within": 2, "of_series": 2},
    "printings": {"is_printing": 1, "printed": 1, "number_at": 4, "seat_of": 2, "sheet_runs": 2, "pile": 3},
    "stacks": {"stack_at": 3, "stack_place": 3, "is_rising": 2, "spoilt_by": 3},
    "rows": {"is_row": 1, "places_in": 1, "row_at": 2, "row_runs": 1, "read_row": 2, "pieces_of": 1},
    "bundles": {
        "is_bundling": 1, "many_bundles": 1, "bundle_row": 2, "seat_in": 2, "star_for": 2, "number_for": 2, "laid": 4,
    },
    "offices": {"is_office": 1, "places_of": 1, "worth_of": 2},
    "pages": {"is_name": 1, "is_page": 2},
    "books": {
        "is_book": 2, "book_of": 1, "counted": 1, "waiting": 1, "voided": 1, "until": 2, "joined": 2,
    },
    "steps": {"steps": 2, "seals": 2, "told_place": 2},
    "lasts": {"made": 1, "last_pages": 1},
    "sums": {"seen": 2, "seen_sums": 3, "seen_worth": 3},
    "balances": {"balance": 2, "moved": 3, "by_days": 2},
    "reach": {"reach": 2, "road_row": 3, "far": 3},
    "cuts": {"lets_cut": 4, "cut_of": 3},
    "labels": {"lets_labels": 4, "labels_of": 3},
    "falsechecker": {"lets_false": 4},
    "falsehoods": {"false_paper": 3, "false_runs": 2},
    "gaps": {"gaps": 1, "unseen": 2},
    "between": {"between": 4, "between_paper": 5, "lets_between": 6},
    "bags": {"unread": 1, "supplies": 2, "supply_of": 2, "can_lie": 4},
    "fillchecker": {"lets_filling": 3, "lets_short": 3},
    "filling": {"filled": 2},
    "whereabouts": {"can_be": 3, "where_paper": 4},
    "wherechecker": {"lets_where": 5},
    "manyin": {"most_in": 4, "least_in": 4},
    "manychecker": {"lets_most": 5, "lets_least": 5},
    "worths": {"worth_between": 2, "worth_papers": 2},
    "worthchecker": {"lets_worth": 4},
    "prices": {"fewest": 2},
    "pricechecker": {"lets_prices": 3, "lets_cost": 3},
    "counts": {"offs": 2, "off_paper": 4, "lets_offs": 5, "first_off": 2},
    "texts": {"shown_runs": 1, "shown_row": 1, "shown_name": 1, "shown_page": 1, "shown_book": 1},
    "readings": {"read_runs": 1, "read_row_text": 1, "read_page": 2, "read_book": 2},
    "naming": {"renamed": 2, "renamed_book": 2, "moved_days": 2},
}
# The classes with how many arguments each is made of, and their methods.
CLASSES = {
    ("ledger", "Ledger"): (1, {"tell": 1, "back": 0, "book": 0, "then": 1, "told": 0, "take_in": 1}),
    ("desk", "Desk"): (0, {"say": 1}),
}


class InterfaceTest(unittest.TestCase):
    def test_functions_take_what_is_listed(self):
        for module, functions in INTERFACE.items():
            loaded = importlib.import_module("pressnotes." + module)
            for name, many in functions.items():
                function = getattr(loaded, name)
                self.assertTrue(inspect.isfunction(function), name)
                # Raises TypeError where so many arguments by place don't fit.
                inspect.signature(function).bind(*range(many))

    def test_classes_have_what_is_listed(self):
        for (module, name), (many, methods) in CLASSES.items():
            made = getattr(importlib.import_module("pressnotes." + module), name)
            self.assertTrue(inspect.isclass(made), name)
            inspect.signature(made).bind(*range(many))
            for method, things in methods.items():
                # In the class itself, not only in a base class.
                self.assertIn(method, vars(made))
                inspect.signature(vars(made)[method]).bind(None, *range(things))

"""The interface: each name stands in the file, and each method in the class, under which it is listed."""

import importlib
import inspect
import unittest

FUNCTIONS = {
    "literals": {
        "is_name": "(text)",
        "is_literal": "(text)",
        "name_of": "(literal)",
        "is_positive": "(literal)",
        "negated": "(literal)",
        "in_order": "(literals)",
    },
    "printing": {
        "clause_text": "(clause)",
        "book_text": "(book)",
        "weights_text": "(weights)",
        "mixture_text": "(mixture)",
    },
    "reading": {
        "read_clause": "(text)",
        "read_book": "(text)",
    },
    "needs": {
        "needs": "(book, literal)",
        "reach": "(book, literal)",
        "chain": "(book, start, goal)",
        "is_chain": "(book, start, goal, links)",
    },
    "rings": {
        "ring_names": "(book)",
        "ring_at": "(book, name)",
        "first_ring": "(book)",
        "apart_rings": "(book)",
    },
    "products": {
        "all_turnings": "(book)",
        "parted": "(one, other)",
    },
    "standings": {
        "sides": "(book)",
        "standing": "(book)",
    },
    "values": {
        "game_value": "(book)",
    },
    "following": {
        "follow": "(book, facts=())",
        "following": "(book, facts=())",
        "rest": "(book, trail)",
    },
    "settling": {
        "settle": "(book, facts=())",
        "can_hold": "(book, facts=())",
        "settled": "(book, facts=())",
        "models": "(book, facts=())",
    },
    "models": {
        "is_model": "(book, literals)",
        "below": "(turning, one, other)",
        "meet": "(turning, one, other)",
    },
    "lowering": {
        "lowest": "(book, turning, facts=())",
    },
    "rules": {
        "rules": "(book, turning)",
        "rounds": "(book, turning, facts=())",
        "chained": "(book, turning, facts=())",
        "derivation": "(book, turning, literal, facts=())",
    },
    "leaving": {
        "left_out": "(book)",
        "least_left": "(book)",
    },
    "forgetting": {
        "forget": "(book, name)",
    },
    "doors": {
        "without": "(book, names)",
        "is_door": "(book, names)",
        "least_door": "(book)",
        "settle_through": "(book, names, facts=())",
    },
    "saving": {
        "desk_text": "(desk)",
        "read_desk": "(text)",
    },
}

CLASSES = {
    "shares.Share": "(top, bottom=1)",
    "clauses.Clause": "(*literals)",
    "turnings.Turning": "(*names)",
    "books.Book": "(*clauses)",
    "rings.Ring": "(name, there, back)",
    "weights.Weights": "(**shares)",
    "mixtures.Mixture": "(*numbers)",
    "refutations.Refutation": "(steps, name=None, when=None, unless=None)",
    "desks.Desk": "(*clauses, strict=False)",
    "families.Family": "(names, choices)",
}

# Classes of which the interface does not say how their objects are made.
RESULTS = [
    "products.Product", "standings.Standing", "values.GameValue", "following.Trail", "settling.Answer", "rules.Rule",
    "leaving.Leaving", "doors.Door",
]

METHODS = {
    "shares.Share": "add radd sub rsub mul rmul floordiv rfloordiv neg abs bool eq lt le gt ge str",
    "clauses.Clause": "iter len contains eq lt le or and sub str",
    "turnings.Turning": "iter len contains getitem eq lt le gt ge xor and or sub str call",
    "books.Book": "iter len contains getitem setitem eq iadd isub add xor ixor",
    "products.Product": "contains bool getitem eq lt le and or mul",
    "weights.Weights": "iter len contains eq getitem setitem call",
    "mixtures.Mixture": "iter len contains eq getitem setitem add iadd mul rmul",
    "following.Trail": "iter len contains",
    "desks.Desk": "getitem setitem",
    "families.Family": "iter len contains eq lt le and or xor",
}

PLAIN_METHODS = {
    "shares.Share": {"over": "(self, other)"},
    "clauses.Clause": {},
    "turnings.Turning": {"says_yes": "(self, literal)", "suits": "(self, clause)", "apart": "(self, other)"},
    "books.Book": {"put": "(self, clause)", "drop": "(self, number)", "copy": "(self)"},
    "rings.Ring": {"bars": "(self, book)"},
    "products.Product": {
        "walk": "(self)",
        "place_of": "(self, turning)",
        "saying": "(self, *literals)",
        "together": "(self, *literals)",
        "onto": "(self, *names)",
        "side": "(self, name)",
        "factors": "(self)",
        "moved": "(self, turning, *literals)",
    },
    "weights.Weights": {
        "most": "(self, book)",
        "fits": "(self, book)",
        "rounded": "(self)",
        "halves": "(self)",
        "as_turning": "(self)",
    },
    "mixtures.Mixture": {
        "load": "(self, book, literal)",
        "least": "(self, book)",
        "excess": "(self, book)",
        "bars": "(self, book)",
        "bound": "(self, book)",
    },
    "following.Trail": {"why": "(self, literal)"},
    "refutations.Refutation": {"refutes": "(self, book, facts=())"},
    "desks.Desk": {
        "put": "(self, clause)",
        "drop": "(self, number)",
        "exchange": "(self, number, clause)",
        "fact": "(self, literal)",
        "unfact": "(self, literal)",
        "turn": "(self, *literals)",
        "edit": "(self, *edits)",
        "undo": "(self)",
        "redo": "(self)",
        "be_strict": "(self, flag)",
        "supposing": "(self, *edits)",
        "stand": "(self)",
        "answer": "(self, *literals)",
    },
    "families.Family": {
        "onto": "(self, *names)",
        "span": "(self, turning)",
        "corners": "(self, turning)",
        "says": "(self, clause)",
        "closed": "(self, turning)",
        "gap": "(self, turning)",
        "closing": "(self)",
        "clauses": "(self, turning)",
    },
}

STATIC_METHODS = {
    "shares.Share": {"read": "(text)"},
    "turnings.Turning": {"median": "(one, two, three)"},
    "weights.Weights": {"of": "(turning, names)"},
}
CLASS_METHODS = {
    "books.Book": {"numbered": "(cls, pairs)"},
    "products.Product": {"free": "(cls, *names)", "hull": "(cls, names, turnings)"},
    "families.Family": {"of": "(cls, book, names)"},
}
PROPERTIES = {
    "clauses.Clause": ["names", "positives"],
    "books.Book": ["names", "next_number"],
    "rings.Ring": ["numbers"],
    "products.Product": ["names", "many"],
    "mixtures.Mixture": ["total"],
    "following.Trail": ["held"],
    "refutations.Refutation": ["depth"],
    "desks.Desk": ["book", "kept_facts", "current", "changed", "history", "ahead", "strict"],
    "families.Family": ["names"],
}
CLASS_VALUES = {
    "clauses.Clause": {"LIMIT": 6},
    "turnings.Turning": {"LIMIT": 12},
    "books.Book": {"LIMIT": 24, "NAMES": 12, "NUMBERS": 999},
    "products.Product": {"LIMIT": 12},
    "weights.Weights": {"LIMIT": 12},
    "mixtures.Mixture": {"LIMIT": 1000000},
    "families.Family": {"LIMIT": 6},
}


def module_of(word):
    return importlib.import_module("renamedhorn." + word.split(".")[0])


def body_of(word):
    """The names that the body of a class binds itself."""
    return vars(getattr(module_of(word), word.split(".")[1]))


class InterfaceTest(unittest.TestCase):
    def test_functions(self):
        for file, functions in FUNCTIONS.items():
            for word, parameters in functions.items():
                with self.subTest(file=file, word=word):
                    function = vars(module_of(file))[word]
                    self.assertTrue(inspect.isfunction(function))
                    self.assertEqual(function.__module__, "renamedhorn." + file)
                    self.assertEqual(str(inspect.signature(function)), parameters)

    def test_classes(self):
        for word, parameters in CLASSES.items():
            with self.subTest(word=word):
                made = getattr(module_of(word), word.split(".")[1])
                self.assertEqual(made.__module__, "renamedhorn." + word.split(".")[0])
                self.assertIn("__init__", vars(made))
                self.assertEqual(str(inspect.signature(made)), parameters)

    def test_classes_of_results(self):
        for word in RESULTS:
            with self.subTest(word=word):
                made = getattr(module_of(word), word.split(".")[1])
                self.assertTrue(inspect.isclass(made))
                self.assertEqual(made.__module__, "renamedhorn." + word.split(".")[0])

    def test_operators(self):
        for word, signs in METHODS.items():
            for sign in signs.split():
                with self.subTest(word=word, sign=sign):
                    self.assertTrue(inspect.isfunction(body_of(word).get(f"__{sign}__")))

    def test_plain_methods(self):
        for word, methods in PLAIN_METHODS.items():
            for name, parameters in methods.items():
                with self.subTest(word=word, name=name):
                    self.assertEqual(str(inspect.signature(body_of(word)[name])), parameters)

    def test_static_and_class_methods(self):
        for rows, kind in ((STATIC_METHODS, staticmethod), (CLASS_METHODS, classmethod)):
            for word, methods in rows.items():
                for name, parameters in methods.items():
                    with self.subTest(word=word, name=name):
                        self.assertIsInstance(body_of(word)[name], kind)
                        self.assertEqual(str(inspect.signature(body_of(word)[name].__func__)), parameters)

    def test_properties(self):
        for word, names in PROPERTIES.items():
            for name in names:
                with self.subTest(word=word, name=name):
                    self.assertIsInstance(body_of(word)[name], property)

    def test_class_values(self):
        for word, values in CLASS_VALUES.items():
            for name, value in values.items():
                with self.subTest(word=word, name=name):
                    self.assertEqual(body_of(word)[name], value)

"""The errors of the interface: their base, and what each one keeps."""

from helper import Case
from renamedhorn import errors

KEPT = {
    "BadName": "text",
    "BadLiteral": "text",
    "BadShare": "text",
    "BadText": "line",
    "BothSigns": "name",
    "TooMany": "limit",
    "NoClause": "number",
    "BadNumber": "number",
    "BadCount": "count",
    "NoName": "name",
    "SharedName": "name",
    "OtherNames": None,
    "NoTurning": None,
    "NoPlace": "at",
    "ZeroBelow": None,
    "BadWeight": "share",
    "HalfLeft": "name",
    "NotPlain": "ring",
    "NotSuited": "number",
    "NotHeld": "literal",
    "NoModel": "paper",
    "NoFact": "literal",
    "EditRefused": "at",
    "NothingBack": None,
    "NotClosed": "pair",
    "NothingAhead": None,
}


class ErrorsTest(Case):
    def test_base_class(self):
        self.assertEqual(errors.HornError.__bases__, (ValueError,))

    def test_each_class_is_a_direct_subclass(self):
        for word in KEPT:
            with self.subTest(word=word):
                self.assertEqual(getattr(errors, word).__bases__, (errors.HornError,))
                self.assertEqual(getattr(errors, word).__module__, "renamedhorn.errors")

    def test_there_are_no_other_classes(self):
        found = [word for word, value in vars(errors).items() if isinstance(value, type)]
        self.assertEqual(sorted(found), sorted([*KEPT, "HornError"]))

    def test_one_argument_is_kept(self):
        for word, attribute in KEPT.items():
            if attribute is None:
                continue
            for kept in ("a", 7, ("a", "b"), object()):
                with self.subTest(word=word, kept=kept):
                    error = getattr(errors, word)(kept)
                    self.assertIs(getattr(error, attribute), kept)
                    self.assertEqual(vars(error), {attribute: kept})
                    named = getattr(errors, word)(**{attribute: kept})
                    self.assertIs(getattr(named, attribute), kept)

    def test_number_of_arguments(self):
        for word, attribute in KEPT.items():
            with self.subTest(word=word):
                made = getattr(errors, word)
                if attribute is None:
                    self.assertEqual(vars(made()), {})
                    self.assertRaises(TypeError, made, "a")
                else:
                    self.assertRaises(TypeError, made)
                    self.assertRaises(TypeError, made, "a", "b")

    def test_each_has_a_message(self):
        for word, attribute in KEPT.items():
            with self.subTest(word=word):
                made = getattr(errors, word)
                error = made() if attribute is None else made(7)
                self.assertNotEqual(str(error), "")

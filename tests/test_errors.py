import unittest

from chordturn import errors
from tests.support import Plain, Refusing, no_text

BASES = {"ChordError": ValueError, "ChordStateError": RuntimeError, "ChordLookupError": LookupError}

FIELDS = {
    "InvalidSize": ("ChordError", "size"),
    "InvalidWord": ("ChordError", "position"),
    "InvalidTableau": ("ChordError", "place"),
    "InvalidDiagram": ("ChordError", "index"),
    "InvalidPartition": ("ChordError", "index"),
    "InvalidPoint": ("ChordError", "point"),
    "InvalidSteps": ("ChordError", "steps"),
    "InvalidNumber": ("ChordError", "number"),
    "InvalidMatching": ("ChordError", "index"),
    "InvalidCrossing": ("ChordError", "crossing"),
    "InvalidSum": ("ChordError", "key"),
    "InvalidCertificate": ("ChordError", "step"),
    "InvalidMatrix": ("ChordError", "index"),
    "InvalidPolynomial": ("ChordError", "index"),
    "InvalidGenerator": ("ChordError", "number"),
    "TooLarge": ("ChordError", "limit"),
    "EmptyWord": ("ChordStateError", "size"),
    "SizesDiffer": ("ChordStateError", "sizes"),
    "Equivalent": ("ChordStateError", "size"),
    "MissingTerm": ("ChordLookupError", "matching"),
}


class ErrorClasses(unittest.TestCase):
    def test_bases_are_direct_subclasses_of_the_named_builtins(self):
        for name, builtin in BASES.items():
            self.assertEqual(getattr(errors, name).__bases__, (builtin,), name)

    def test_each_error_is_a_direct_subclass_of_its_base(self):
        for name, (base, _) in FIELDS.items():
            self.assertEqual(getattr(errors, name).__bases__, (getattr(errors, base),), name)

    def test_only_bases_have_subclasses(self):
        for name in FIELDS:
            self.assertEqual(getattr(errors, name).__subclasses__(), [], name)

    def test_each_base_has_exactly_the_listed_subclasses(self):
        for base in BASES:
            listed = sorted(name for name, (above, _) in FIELDS.items() if above == base)
            found = sorted(below.__name__ for below in getattr(errors, base).__subclasses__())
            self.assertEqual(found, listed)

    def test_the_file_defines_these_classes_and_no_others(self):
        defined = [name for name, value in vars(errors).items() if isinstance(value, type)]
        self.assertEqual(sorted(defined), sorted([*BASES, *FIELDS]))
        for name in defined:
            self.assertEqual(getattr(errors, name).__module__, "chordturn.errors")

    def test_the_field_holds_the_very_value_that_was_passed(self):
        values = no_text() + ["", "UD", [1, [2]], {"a": [1]}, (1, (2, None)), Plain(), Refusing()]
        for name, (_, field) in FIELDS.items():
            for value in values:
                error = getattr(errors, name)(value)
                self.assertIs(getattr(error, field), value, name)

    def test_a_field_keeps_its_value_when_the_error_is_raised_and_caught_by_its_bases(self):
        for name, (base, field) in FIELDS.items():
            value = [name]
            for caught_as in (getattr(errors, base), BASES[base]):
                with self.assertRaises(caught_as) as caught:
                    raise getattr(errors, name)(value)
                self.assertIs(getattr(caught.exception, field), value)

    def test_every_error_takes_exactly_one_argument(self):
        for name in FIELDS:
            with self.assertRaises(TypeError):
                getattr(errors, name)()
            with self.assertRaises(TypeError):
                getattr(errors, name)(1, 2)

    def test_each_error_has_its_own_field_only(self):
        for name, (_, field) in FIELDS.items():
            self.assertEqual(vars(getattr(errors, name)(5)), {field: 5}, name)

    def test_no_method_has_the_name_of_a_field(self):
        fields = {field for _, field in FIELDS.values()}
        for name in [*BASES, *FIELDS]:
            self.assertFalse(fields & set(dir(getattr(errors, name))), name)


if __name__ == "__main__":
    unittest.main()

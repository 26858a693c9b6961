import unittest

from fieldrides import errors

ATTRIBUTES = {
    "BadRecord": ("record",), "NoRecord": (),
    "BadTree": ("field",), "BadForest": ("field",), "NotFair": ("field",), "CannotLand": ("field",),
    "Overlap": ("field",), "BadLetter": ("field",), "BadAnswer": ("field",),
    "FieldsDiffer": ("first", "second"), "WordsClash": ("first", "second"),
    "HangsOn": ("kept", "dropped"), "ForestsDiffer": (),
    "BadText": ("line",), "BadLine": ("number",),
    "BadNumber": ("number",), "NoLetter": ("number",), "NotKept": ("number",), "NoHouse": ("house",),
    "BadPlace": ("place",), "Marked": ("place",),
    "BadSizes": (), "NoPlan": (), "NotAsked": (), "NotDone": (),
}


class ErrorsTest(unittest.TestCase):
    def test_the_base_class_stands_directly_under_value_error(self):
        self.assertEqual(errors.FieldridesError.__bases__, (ValueError,))

    def test_each_class_stands_under_the_named_base(self):
        for name in ATTRIBUTES:
            base = errors.BadPlace if name == "Marked" else errors.FieldridesError
            self.assertEqual(getattr(errors, name).__bases__, (base,), name)

    def test_each_error_has_its_attributes(self):
        for name, attributes in ATTRIBUTES.items():
            values = list(range(len(attributes)))
            error = getattr(errors, name)(*values)
            self.assertEqual([getattr(error, attribute) for attribute in attributes], values, name)
            self.assertEqual(len(vars(error)), len(attributes), name)
            self.assertIsInstance(str(error), str)

    def test_the_file_defines_no_other_class(self):
        classes = {name for name, value in vars(errors).items() if isinstance(value, type)}
        self.assertEqual(classes, set(ATTRIBUTES) | {"FieldridesError"})

    def test_errors_can_be_caught_by_their_bases(self):
        for base in (errors.Marked, errors.BadPlace, errors.FieldridesError, ValueError):
            with self.assertRaises(base):
                raise errors.Marked(3)


if __name__ == "__main__":
    unittest.main()

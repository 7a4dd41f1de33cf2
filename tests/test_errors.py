import unittest

from askshanded import errors

ATTRIBUTES = {
    "BadMachine": ("part",),
    "BadState": ("state",),
    "TooLarge": ("size",),
    "NoStep": ("ask", "end"),
    "BadNumber": ("number",),
    "SeveralEnds": ("number",),
    "BadCount": ("count",),
    "BadStanding": ("standing",),
    "NoAsk": ("step",),
    "ChosenWrong": ("number",),
    "Refused": ("standing", "step"),
}


class ErrorsTest(unittest.TestCase):
    def test_every_error_is_a_direct_subclass(self):
        self.assertEqual(errors.AsksError.__bases__, (ValueError,))
        for name in ATTRIBUTES:
            self.assertEqual(getattr(errors, name).__bases__, (errors.AsksError,), name)

    def test_no_error_is_another_one(self):
        for name, attributes in ATTRIBUTES.items():
            error = getattr(errors, name)(*attributes)
            for other in ATTRIBUTES:
                self.assertEqual(isinstance(error, getattr(errors, other)), name == other)

    def test_attributes_by_place(self):
        for name, attributes in ATTRIBUTES.items():
            values = [((0, (1, -1), ()), number) for number in range(len(attributes))]
            error = getattr(errors, name)(*values)
            self.assertEqual(vars(error), dict(zip(attributes, values)), name)

    def test_attributes_by_name(self):
        for name, attributes in ATTRIBUTES.items():
            values = {attribute: number for number, attribute in enumerate(attributes)}
            self.assertEqual(vars(getattr(errors, name)(**values)), values, name)

    def test_an_error_has_a_message(self):
        for name, attributes in ATTRIBUTES.items():
            self.assertTrue(str(getattr(errors, name)(*attributes)), name)

    def test_errors_are_defined_in_their_file(self):
        for name in ["AsksError", *ATTRIBUTES]:
            self.assertEqual(getattr(errors, name).__module__, "askshanded.errors")


if __name__ == "__main__":
    unittest.main()

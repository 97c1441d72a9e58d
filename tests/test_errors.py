import unittest

from takersrest import errors

PLAIN = (
    "NoLots NotJoined NoWay NoPairing SmoothOffer UnlikeCosts HallFull WrongSize NothingToUndo BadText"
).split()
TOLD = {
    "BadThing": ("position",),
    "NestedLots": ("inner", "outer"),
    "BadRow": ("thing",),
    "FallingCosts": ("thing",),
    "UnlikeSizes": ("taker",),
    "SmallRoom": ("taker",),
    "BadWeight": ("taker",),
    "NotSmooth": ("taker",),
    "BadMove": ("position",),
    "RoughOffer": ("fault",),
    "Barred": ("bar",),
    "UnknownTaker": ("number",),
    "BadLine": ("line",),
}
NAMES = PLAIN + list(TOLD)


class Errors(unittest.TestCase):
    def test_base_is_a_value_error(self):
        self.assertEqual(errors.TakersrestError.__bases__, (ValueError,))

    def test_each_stands_directly_under_the_base(self):
        for name in NAMES:
            with self.subTest(name=name):
                self.assertEqual(getattr(errors, name).__bases__, (errors.TakersrestError,))
                self.assertEqual(getattr(errors, name).__module__, "takersrest.errors")

    def test_none_stands_under_another_one(self):
        for name in NAMES:
            for other in NAMES:
                if name != other:
                    self.assertFalse(issubclass(getattr(errors, name), getattr(errors, other)))

    def test_there_are_no_others(self):
        classes = [name for name, value in vars(errors).items() if isinstance(value, type)]
        self.assertEqual(sorted(classes), sorted(NAMES + ["TakersrestError"]))

    def test_attributes_are_set_at_once(self):
        for name, attributes in TOLD.items():
            with self.subTest(name=name):
                values = [(7, attribute) for attribute in attributes]
                error = getattr(errors, name)(*values)
                self.assertEqual([getattr(error, attribute) for attribute in attributes], values)

    def test_errors_can_be_shown_whatever_they_carry(self):
        for name, attributes in TOLD.items():
            with self.subTest(name=name):
                self.assertNotEqual(str(getattr(errors, name)(*[10 ** 9999 for _ in attributes])), "")

    def test_plain_errors_carry_words(self):
        for name in PLAIN:
            self.assertEqual(str(getattr(errors, name)("so it is")), "so it is")


if __name__ == "__main__":
    unittest.main()

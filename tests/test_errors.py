import unittest

from timegranary import errors

# Each refusal of the interface: its base class and its fields.
REFUSALS = {
    "NoLabels": (ValueError, ("at",)),
    "NoWish": (ValueError, ("at",)),
    "NoSeries": (KeyError, ("at",)),
    "NoOrder": (ValueError, ("at",)),
    "NoWhat": (ValueError, ("at",)),
    "NoBits": (ValueError, ("at",)),
    "NoPlace": (IndexError, ("at",)),
    "NoBlock": (ValueError, ("at",)),
    "NoLog": (ValueError, ("at",)),
    "NoBody": (ValueError, ("body",)),
    "NoDeed": (RuntimeError, ()),
    "NoGrain": (ValueError, ("at",)),
    "NoKeep": (ValueError, ("at",)),
    "NoNumber": (LookupError, ("number",)),
    "TooLate": (ValueError, ("time", "horizon")),
    "Gone": (LookupError, ("labels", "at")),
    "NoAsk": (ValueError, ("at",)),
    "NoText": (ValueError, ("at",)),
    "NoHouse": (ValueError, ("at",)),
    "Clash": (ValueError, ("stamp",)),
}


class Refusals(unittest.TestCase):
    def test_just_the_refusals_of_the_interface_are_defined(self):
        defined = [name for name, thing in vars(errors).items() if isinstance(thing, type)]
        self.assertEqual(sorted(defined), sorted(REFUSALS))

    def test_base_classes(self):
        for name, (base, fields) in REFUSALS.items():
            with self.subTest(name):
                self.assertEqual(getattr(errors, name).__bases__, (base,))

    def test_fields_are_the_very_things_handed_in(self):
        for name, (base, fields) in REFUSALS.items():
            with self.subTest(name):
                things = [object() for field in fields]
                refusal = getattr(errors, name)(*things)
                self.assertEqual(sorted(vars(refusal)), sorted(fields))
                for field, thing in zip(fields, things):
                    self.assertIs(getattr(refusal, field), thing)

    def test_fields_by_their_names(self):
        for name, (base, fields) in REFUSALS.items():
            with self.subTest(name):
                refusal = getattr(errors, name)(**{field: field for field in fields})
                self.assertEqual(vars(refusal), {field: field for field in fields})

    def test_they_are_raised_and_caught_by_their_base_and_have_words(self):
        for name, (base, fields) in REFUSALS.items():
            with self.subTest(name):
                refusal = getattr(errors, name)(*fields) if fields else getattr(errors, name)("busy")
                with self.assertRaises(base) as caught:
                    raise refusal
                self.assertIs(caught.exception, refusal)
                self.assertTrue(str(refusal))


if __name__ == "__main__":
    unittest.main()

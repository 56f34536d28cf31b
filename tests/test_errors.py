import unittest

from pagemaker import errors

# Of each error: Python's own class, and what it is made with.
ERRORS = {
    "BadSource": (ValueError, ("part",)),
    "BadRow": (ValueError, ("row",)),
    "BadText": (ValueError, ("at",)),
    "BadPath": (ValueError, ("path",)),
    "BadName": (ValueError, ("name",)),
    "BadTemplate": (ValueError, ("name",)),
    "BadNumber": (ValueError, ("number",)),
    "BadDeed": (ValueError, ("number",)),
    "NoLead": (KeyError, ("path",)),
    "NoName": (KeyError, ("name",)),
    "NoRead": (KeyError, ("key",)),
    "BadKey": (KeyError, ("key",)),
    "NoPath": (LookupError, ("path",)),
    "NoPage": (LookupError, ("path",)),
    "NoAddress": (LookupError, ("address",)),
    "NoPart": (IndexError, ("tag", "number")),
    "TooMany": (OverflowError, ("many",)),
    "Taken": (RuntimeError, ("path",)),
    "Fault": (RuntimeError, ("word", "what")),
}

WORTHS = ("a", 3, None, True, [1, ["x"]], ("lead", "a/b"))


def fields_of(error, names):
    return [getattr(error, name) for name in names]


class ErrorsTest(unittest.TestCase):
    def test_there_are_nineteen(self):
        self.assertEqual(len(ERRORS), 19)
        for name in ERRORS:
            self.assertTrue(issubclass(getattr(errors, name), Exception), name)

    def test_each_stands_straight_under_its_own_class_of_pythons(self):
        for name, (base, fields) in ERRORS.items():
            self.assertEqual(getattr(errors, name).__bases__, (base,), name)

    def test_none_stands_under_another_one(self):
        for name in ERRORS:
            for other in ERRORS:
                under = issubclass(getattr(errors, name), getattr(errors, other))
                self.assertEqual(under, name == other, (name, other))

    def test_made_by_place(self):
        for name, (base, fields) in ERRORS.items():
            for worth in WORTHS:
                handed = [worth, "second"][:len(fields)]
                error = getattr(errors, name)(*handed)
                self.assertEqual(fields_of(error, fields), handed, name)

    def test_made_by_name(self):
        for name, (base, fields) in ERRORS.items():
            for worth in WORTHS:
                handed = [worth, "second"][:len(fields)]
                error = getattr(errors, name)(**dict(zip(fields, handed)))
                self.assertEqual(fields_of(error, fields), handed, name)

    def test_made_with_just_these(self):
        for name, (base, fields) in ERRORS.items():
            with self.assertRaises(TypeError):
                getattr(errors, name)()
            with self.assertRaises(TypeError):
                getattr(errors, name)(*["a"] * (len(fields) + 1))

    def test_raised_and_caught_by_pythons_own(self):
        for name, (base, fields) in ERRORS.items():
            with self.assertRaises(base) as caught:
                raise getattr(errors, name)(*["a"] * len(fields))
            self.assertEqual(fields_of(caught.exception, fields), ["a"] * len(fields))


if __name__ == "__main__":
    unittest.main()

import unittest

from pagemaker import limits


class LimitsTest(unittest.TestCase):
    def test_page(self):
        self.assertEqual(limits.PAGE, "page")

    def test_fields_are_a_tuple_in_order(self):
        self.assertEqual(limits.FIELDS, ("title", "path", "day", "tags", "body", "inner"))
        self.assertIs(type(limits.FIELDS), tuple)

    def test_most(self):
        self.assertEqual(limits.MOST, 4)
        self.assertIs(type(limits.MOST), int)


if __name__ == "__main__":
    unittest.main()

import unittest

from pagemaker.addresses import page_address, part_address, place_in
from things import OTHER_THINGS

NO_ADDRESSES = OTHER_THINGS + (
    "a", "/", "//", "//a", "/a/", "/A", "/a//b", "/a/b/c/d", "/abcdefghi", "/tag", "/tag/", "/tag//2", "/tag/t/",
    "/tag/t/0", "/tag/t/1", "/tag/t/01", "/tag/t/02", "/tag/t/-2", "/tag/t/+2", "/tag/t/2/", "/tag/t/2/3", "/tag/t/a",
    "/tag/T", "/tag/abcdefghi", "/tag/t/2 ", "/tag/t/ 2", "/tag/t/2.0", "/tag/t/2\n", "/tags/t/2", " /a", "/a ",
    "/a\n", "tag/t", "/a b", "/nowhere/2", ["/a"], ("/a",), ("page", "a"), "/tag/t/2_0", "/tag/t/1e3", "/tag/2",
)


class PlaceInTest(unittest.TestCase):
    def test_pages(self):
        for path in ("a", "abcdefgh", "a/b", "a/b/c", "a/tag", "a/tag/tag", "tags", "ta/g"):
            self.assertEqual(place_in("/" + path), ("page", path))
            self.assertEqual(place_in(page_address(path)), ("page", path))

    def test_parts(self):
        self.assertEqual(place_in("/tag/t"), ("part", "t", 1))
        self.assertEqual(place_in("/tag/tag"), ("part", "tag", 1))
        for number in (1, 2, 9, 10, 13, 100, 999, 10 ** 30):
            self.assertEqual(repr(place_in(part_address("abcdefgh", number))), repr(("part", "abcdefgh", number)))

    def test_a_number_beyond_what_int_takes(self):
        self.assertEqual(place_in("/tag/t/" + "9" * 5000), ("part", "t", 10 ** 5000 - 1))

    def test_no_addresses(self):
        for thing in NO_ADDRESSES:
            self.assertIsNone(place_in(thing), thing)


if __name__ == "__main__":
    unittest.main()

import unittest

from checks import check_refused, state_of
from pagemaker.errors import BadKey
from pagemaker.facts import fact
from pagemaker.sites import Site
from pagemaker.sources import source_of
from things import OTHER_THINGS

A = source_of("A <b>", day=4, tags=("t", "u"), under="wide", olds=("old", "b"), rows=("one", "", "[x](b)"))
FOOT = ("", (("plain", "foot"), ("use", "a")))


def full_site():
    """A Site with a page, two drafts, a page to be, and a template."""
    site = Site(today=5)
    site.put("a", A)
    site.put("d", source_of("D", draft=True, tags=("t", "dt"), olds=("dold",)))
    site.put("e/f", source_of("E", day=6, tags=("t", "et"), olds=("eold",)))
    site.put("g", source_of("G"))
    site.hang("foot", FOOT)
    return site


def tagged_site(many, most):
    """A Site with so many pages that have the tag t, named from a on, and parts of most each."""
    site = Site(most=most)
    for path in "abcdefghijkl"[:many]:
        site.put(path, source_of("T", tags=("t",)))
    return site


class FactTest(unittest.TestCase):
    def told(self, key, worth):
        self.assertEqual(repr(fact(self.site, key)), repr(worth), key)

    def setUp(self):
        self.site = full_site()

    def test_of_a_page(self):
        self.told(("title", "a"), "A <b>")
        self.told(("day", "a"), 4)
        self.told(("tags", "a"), ("t", "u"))
        self.told(("under", "a"), "wide")
        self.told(("rows", "a"), ("one", "", "[x](b)"))

    def test_of_a_bare_page(self):
        for word, worth in (("title", "G"), ("day", 0), ("tags", ()), ("under", "page"), ("rows", ())):
            self.told((word, "g"), worth)

    def test_where_there_is_no_page(self):
        for word in ("title", "day", "tags", "under", "rows"):
            for path in ("d", "e/f", "z", "old", "b", "a/b/c"):
                self.told((word, path), None)

    def test_of_a_day_that_comes(self):
        self.site.set_today(6)
        self.told(("title", "e/f"), "E")
        self.told(("lead", "eold"), "e/f")
        self.told(("tag", "t"), ("e/f", "a"))

    def test_template(self):
        self.told(("template", "foot"), FOOT)
        self.told(("template", "page"), None)
        self.told(("template", "a"), None)
        self.site.unhang("foot")
        self.told(("template", "foot"), None)

    def test_tag(self):
        self.told(("tag", "t"), ("a",))
        self.told(("tag", "u"), ("a",))
        for tag in ("dt", "et", "z", "tag"):
            self.told(("tag", tag), ())

    def test_lead(self):
        for path, led in (
            ("a", "a"), ("b", "a"), ("old", "a"), ("g", "g"), ("d", None), ("dold", None), ("eold", None), ("z", None),
        ):
            self.told(("lead", path), led)

    def test_by_name(self):
        self.assertEqual(fact(key=("day", "a"), site=self.site), 4)

    def test_nothing_is_changed(self):
        was = state_of(self.site)
        for key in (("title", "a"), ("tag", "t"), ("part", "t", 1), ("lead", "b"), ("template", "foot")):
            self.assertEqual(fact(self.site, key), fact(self.site, key))
        self.assertEqual(state_of(self.site), was)


class PartTest(unittest.TestCase):
    def test_parts_of_every_size(self):
        for many in range(13):
            for most in range(1, 10):
                site = tagged_site(many, most)
                paths = tuple("abcdefghijkl"[:many])
                parts = []
                while paths:
                    parts.append(paths[:most])
                    paths = paths[most:]
                for number in range(1, len(parts) + 3):
                    worth = (parts[number - 1], len(parts)) if number <= len(parts) else None
                    self.assertEqual(repr(fact(site, ("part", "t", number))), repr(worth), (many, most, number))

    def test_far_beyond(self):
        self.assertIsNone(fact(tagged_site(5, 2), ("part", "t", 10 ** 30)))

    def test_of_no_such_tag(self):
        for number in (1, 2):
            self.assertIsNone(fact(full_site(), ("part", "dt", number)))
            self.assertIsNone(fact(full_site(), ("part", "z", number)))

    def test_in_the_order_of_pages(self):
        site = Site(today=9, most=2)
        for path, day in (("a", 1), ("b", 9), ("c", 5), ("d", 5), ("e", 0)):
            site.put(path, source_of("T", day=day, tags=("t",)))
        self.assertEqual(fact(site, ("part", "t", 1)), (("b", "c"), 3))
        self.assertEqual(fact(site, ("part", "t", 2)), (("d", "a"), 3))
        self.assertEqual(fact(site, ("part", "t", 3)), (("e",), 3))
        site.set_most(5)
        self.assertEqual(fact(site, ("part", "t", 1)), (("b", "c", "d", "a", "e"), 1))


class BadKeyTest(unittest.TestCase):
    def refused(self, thing):
        site = full_site()
        check_refused(self, BadKey, {"key": thing}, fact, site, thing)
        self.assertEqual(state_of(site), state_of(full_site()))

    def test_other_things(self):
        for thing in OTHER_THINGS:
            self.refused(thing)
            self.refused((thing, "a"))
            self.refused(("title", thing))
            self.refused(("template", thing))
            self.refused((thing, "t", 1))
            self.refused(("part", thing, 1))

    def test_lists(self):
        for key in (["title", "a"], ["tag", "t"], ["part", "t", 1], ["template", "foot"], ["lead", "a"]):
            self.refused(key)

    def test_other_lengths(self):
        for word in ("title", "day", "tags", "under", "rows", "template", "tag", "lead", "part"):
            for thing in ((word,), (word, "a", "a"), (word, "a", "a", 1), (word, "a", None), (word, "t", 1, 1)):
                self.refused(thing)
        for word in ("title", "day", "tags", "under", "rows", "template", "tag", "lead"):
            self.refused((word, "a", 1))
        self.refused(("part", "t"))

    def test_other_words(self):
        for word in ("draft", "olds", "Title", "", "page", "source", "tags ", "pages", None, 1, ("title",), ["title"]):
            self.refused((word, "a"))

    def test_numbers(self):
        for number in (0, -1, True, False, None, "1", "", (1,), [1], -10 ** 30):
            self.refused(("part", "t", number))

    def test_paths_that_are_none(self):
        for word in ("title", "day", "tags", "under", "rows", "lead"):
            for path in ("", "A", "tag", "tag/a", "a/b/c/d", "/a", "a/", "abcdefghi", 0, None, True, ("a",), ["a"]):
                self.refused((word, path))

    def test_names_that_are_none(self):
        for name in ("", "A", "a/b", "abcdefghi", "a1", "a ", 0, None, True, ("a",), ["a"]):
            self.refused(("template", name))
            self.refused(("tag", name))
            self.refused(("part", name, 1))

    def test_kept_so_that_no_change_is_seen(self):
        thing = ["title", ["a"]]
        caught = check_refused(self, BadKey, {"key": ["title", ["a"]]}, fact, Site(), thing)
        thing[1].append("b")
        self.assertEqual(caught.key, ["title", ["a"]])


if __name__ == "__main__":
    unittest.main()

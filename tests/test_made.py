import random
import unittest

from checks import chance_deed, check_refused, site_of, state_of
from pagemaker.errors import NoAddress
from pagemaker.facts import fact
from pagemaker.filling import page_text, reads_of
from pagemaker.made import made, reads_at, unlike
from pagemaker.parts import part_reads, part_text
from pagemaker.sites import Site
from pagemaker.sources import source_of
from things import OTHER_THINGS

SOURCES = {
    "a": source_of("A & a", day=3, tags=("t",), olds=("old", "z/old")),
    "b/c": source_of("B", day=4, tags=("t", "u"), olds=("a", "old")),
    "d": source_of("D", day=1, tags=("t",), under="ring"),
    "e": source_of("E", draft=True, tags=("draft",), olds=("draft",)),
    "f": source_of("F", day=10, tags=("later",), olds=("later",)),
    "g": source_of("G", under="gone"),
    "h": source_of("H", under="much"),
    "i": source_of("I", under="deep", olds=("e",)),
}
TEMPLATES = {
    "page": "<{title}>", "ring": "{use link}", "link": "in ring\n", "much": "{use deep}" * 2 + "{use page}" * 10,
    "deep": "{use list}", "list": "{pages t body}", "body": "{body}", "x": "",
}


def full_site():
    """A Site with pages, faults of three words, parts and moved ones."""
    return site_of(TEMPLATES, SOURCES, most=2)


class MadeTest(unittest.TestCase):
    def test_all_kinds_in_one_rising_list(self):
        site = full_site()
        self.assertEqual(
            made(site),
            [
                ("/a", "page", "<A &amp; a>"),
                ("/b/c", "page", "<B>"),
                ("/d", "fault", "ring ring link ring"),
                ("/e", "moved", '<a href="/i">moved</a>'),
                ("/g", "fault", "none gone"),
                ("/h", "fault", "deep much deep list body"),
                ("/i", "fault", "deep deep list body"),
                ("/old", "moved", '<a href="/b/c">moved</a>'),
                ("/tag/t", "part", part_text(site, "t", 1)),
                ("/tag/t/2", "part", part_text(site, "t", 2)),
                ("/tag/u", "part", part_text(site, "u", 1)),
                ("/z/old", "moved", '<a href="/a">moved</a>'),
            ],
        )
        self.assertEqual(made(site=site), made(full_site()))

    def test_nothing(self):
        self.assertEqual(made(Site()), [])
        self.assertEqual(made(site_of(TEMPLATES, {"e": SOURCES["e"], "f": SOURCES["f"]})), [])

    def test_much(self):
        site = site_of({"page": "{use a}" * 12, "a": "{use b}", "b": ""}, {"a": source_of("A")})
        self.assertEqual(made(site), [("/a", "fault", "much 25")])

    def test_a_page_at_a_tags_name(self):
        site = site_of({"page": "x"}, {"tags": source_of("T", tags=("tag",)), "a/tag": source_of("A", tags=("tag",))})
        self.assertEqual([address for address, kind, text in made(site)], ["/a/tag", "/tag/tag", "/tags"])

    def test_ten_parts_rise_as_texts(self):
        site = Site(most=1)
        for path in "abcdefghijkl":
            site.put(path, source_of("T", tags=("t",)))
        self.assertEqual(
            [address for address, kind, text in made(site) if kind == "part"],
            ["/tag/t", "/tag/t/10", "/tag/t/11", "/tag/t/12"] + [f"/tag/t/{at}" for at in range(2, 10)],
        )

    def test_moved_leads_in_one_step(self):
        site = site_of({"page": "x"}, {"a": source_of("A")})
        for path, to in (("a", "b"), ("b", "c/d"), ("c/d", "e")):
            site.move(path, to)
        moved = '<a href="/e">moved</a>'
        self.assertEqual(
            made(site), [("/a", "moved", moved), ("/b", "moved", moved), ("/c/d", "moved", moved), ("/e", "page", "x")])

    def test_moved_of_several_olds(self):
        site = site_of({"page": "x"}, {"a": source_of("A", day=1, olds=("o",)), "b": source_of("B", olds=("o",))})
        self.assertEqual(made(site)[-1], ("/o", "moved", '<a href="/a">moved</a>'))

    def test_nothing_is_changed_and_all_told_anew(self):
        site = full_site()
        was = made(site)
        made(site).clear()
        self.assertEqual(made(site), was)
        self.assertEqual(state_of(site), state_of(full_site()))


class ReadsAtTest(unittest.TestCase):
    def test_each_kind(self):
        site = full_site()
        for path in ("a", "b/c", "d", "g", "h", "i"):
            self.assertEqual(repr(reads_at(site, "/" + path)), repr(reads_of(site, path)))
        for address, tag, number in (("/tag/t", "t", 1), ("/tag/t/2", "t", 2), ("/tag/u", "u", 1)):
            self.assertEqual(repr(reads_at(site, address)), repr(part_reads(site, tag, number)))
        self.assertEqual(repr(reads_at(site, "/old")), repr([(("lead", "old"), "b/c")]))
        self.assertEqual(repr(reads_at(address="/e", site=site)), repr([(("lead", "e"), "i")]))

    def test_no_address(self):
        site = full_site()
        things = OTHER_THINGS + (
            "a", "/", "//a", "/a/", "/A", "/f", "/draft", "/later", "/z", "/tag", "/tag/", "/tag/t/", "/tag/t/1",
            "/tag/t/0", "/tag/t/3", "/tag/t/02", "/tag/u/2", "/tag/draft", "/tag/later", "/tag/z", "/tag/t/-1",
            "/tag/t/2/", "/tag/t/" + "9" * 5000, "/tag/T", ["/a"], ("/a",), "/a\n", " /a", "tag/t",
        )
        for thing in things:
            check_refused(self, NoAddress, {"address": thing}, reads_at, site, thing)
            check_refused(self, NoAddress, {"address": thing}, reads_at, address=thing, site=site)
        self.assertEqual(state_of(site), state_of(full_site()))

    def test_kept_so_that_no_change_is_seen(self):
        thing = ["/a"]
        caught = check_refused(self, NoAddress, {"address": ["/a"]}, reads_at, Site(), thing)
        thing.append("b")
        self.assertEqual(caught.address, ["/a"])

    def test_told_anew(self):
        site = full_site()
        for address, kind, text in made(site):
            was = reads_at(site, address)
            reads_at(site, address).clear()
            self.assertEqual(reads_at(site, address), was)


class UnlikeTest(unittest.TestCase):
    ONE = [("/a", "page", "x"), ("/b", "moved", "y"), ("/c", "part", "z")]

    def test_like_ones(self):
        self.assertIsNone(unlike(self.ONE, list(self.ONE)))
        self.assertIsNone(unlike(self.ONE, self.ONE))
        self.assertIsNone(unlike([], []))
        self.assertIsNone(unlike(made(full_site()), made(full_site())))

    def both(self, other, address, mine, theirs):
        handed = (list(self.ONE), list(other))
        self.assertEqual(repr(unlike(self.ONE, other)), repr((address, mine, theirs)))
        self.assertEqual(repr(unlike(other=self.ONE, one=other)), repr((address, theirs, mine)))
        self.assertEqual((self.ONE, other), handed)

    def test_a_text(self):
        self.both([self.ONE[0], ("/b", "moved", "Y"), self.ONE[2]], "/b", ("moved", "y"), ("moved", "Y"))

    def test_a_kind(self):
        self.both([self.ONE[0], ("/b", "page", "y"), self.ONE[2]], "/b", ("moved", "y"), ("page", "y"))

    def test_on_one_side_alone(self):
        self.both(self.ONE[1:], "/a", ("page", "x"), None)
        self.both(self.ONE[:2], "/c", ("part", "z"), None)
        self.both(self.ONE + [("/d", "page", "")], "/d", None, ("page", ""))
        self.both([("/", "page", "x")] + self.ONE, "/", None, ("page", "x"))
        self.both([], "/a", ("page", "x"), None)

    def test_the_least_of_several(self):
        self.both([("/a", "page", "X"), ("/b", "moved", "Y")], "/a", ("page", "x"), ("page", "X"))
        self.both([self.ONE[0], ("/bb", "page", "")], "/b", ("moved", "y"), None)
        self.both([self.ONE[0], ("/aa", "page", ""), ("/b", "moved", "Y")], "/aa", None, ("page", ""))


class DeedsTest(unittest.TestCase):
    NAMES, TAGS, PATHS = ("page", "a", "b"), "tuv", ("a", "b", "c/d", "e", "f")

    def each_step(self, seed, times, steps):
        """Sites ahead of and behind a deed by chance, many of them."""
        chance = random.Random(seed)
        for time in range(times):
            site = Site(today=2, most=2)
            for step in range(steps):
                ahead = site.like()
                chance_deed(chance, site, self.NAMES, self.TAGS, self.PATHS)
                yield ahead, site

    def test_what_read_no_other_fact_stays_as_it_is(self):
        stayed = 0
        for ahead, site in self.each_step(14, 40, 40):
            was, now = made(ahead), made(site)
            texts = {address: (kind, text) for address, kind, text in now}
            for address, kind, text in was:
                reads = reads_at(ahead, address)
                self.assertEqual(reads, [(key, fact(ahead, key)) for key, value in reads])
                if all(fact(site, key) == value for key, value in reads):
                    self.assertEqual(texts[address], (kind, text), address)
                    stayed += 1
        self.assertGreater(stayed, 1000)

    def test_made_is_all_pages_parts_and_moved_ones(self):
        for ahead, site in self.each_step(15, 30, 40):
            told = made(site)
            self.assertEqual(told, sorted(told))
            addresses = [address for address, kind, text in told]
            self.assertEqual(len(set(addresses)), len(addresses))
            expected = []
            for path in site.pages():
                expected.append("/" + path)
                for old in site.source(path)[5]:
                    expected.extend(["/" + old] * (old not in site.pages()))
                for tag in site.source(path)[3]:
                    at = site.pages_of(tag).index(path) // site.most() + 1
                    expected.append(f"/tag/{tag}/{at}" if at > 1 else f"/tag/{tag}")
            self.assertEqual(addresses, sorted(set(expected)))
            for address, kind, text in told:
                if kind == "page":
                    self.assertEqual(text, page_text(site, address[1:]))
                if kind == "moved":
                    self.assertEqual(text, f'<a href="/{site.lead(address[1:])}">moved</a>')
                    self.assertIn(site.lead(address[1:]), site.pages())

    def test_unlike_of_both_sides(self):
        found = 0
        for ahead, site in self.each_step(16, 20, 30):
            one, other = made(ahead), made(site)
            told = unlike(one, other)
            self.assertEqual(told is None, one == other)
            least = sorted(set(one) ^ set(other))[:1]
            self.assertEqual([told[0]] if told else [], [triple[0] for triple in least])
            found += told is not None
        self.assertGreater(found, 100)


if __name__ == "__main__":
    unittest.main()

import random
import re
import unittest

from checks import chance_deed, check_refused, site_of, state_of
from pagemaker.errors import NoName, NoPage
from pagemaker.links import broken, broken_to, linking, links_of, reached, ring_of, rings
from pagemaker.marks import blocks_of, targets_of
from pagemaker.sites import Site
from pagemaker.sources import source_of
from pagemaker.templates import calls_of
from pagemaker.templatetext import template_text
from things import OTHER_THINGS

NO_PAGES = OTHER_THINGS + ("z", "draft", "later", "tag/a", "tag", "/a", "a/b/c/d", ("a",), ["a"], "old")


def site_with(**rows):
    """A Site of day 9 with these pages by their rows, a draft, a page to come, and an old name of page a."""
    site = Site(today=9)
    site.put("a", source_of("A", olds=("old", "x/old")))
    site.put("draft", source_of("D", draft=True, rows=("[a](a)", "[z](z)")))
    site.put("later", source_of("L", day=10, rows=("[a](a)", "[z](z)")))
    for path, told in rows.items():
        site.put(path, source_of(path, rows=told))
    return site


def links(*rows):
    """The links of page b with these rows, (row, at, target, led)."""
    return links_of(site_with(b=rows), "b")


class LinksOfTest(unittest.TestCase):
    def test_none(self):
        self.assertEqual(links(), [])
        self.assertEqual(links("", "text", "# head", "- item", "[a](A)", "[](a)", "[a] (a)", "[a](tag/a)"), [])

    def test_in_text(self):
        self.assertEqual(links("[x](a)"), [(0, 0, "a", "a")])
        self.assertEqual(links("go [x](a)", "", "  [y](b)"), [(0, 3, "a", "a"), (2, 2, "b", "b")])

    def test_in_heads_and_items_at_the_place_in_the_whole_row(self):
        self.assertEqual(
            links("# [x](a)", "## see [x](a)", "### [x](a)", "#### [x](a)", "- [x](a)", "- and [x](a)", "-[x](a)"),
            [(0, 2, "a", "a"), (1, 7, "a", "a"), (2, 4, "a", "a"), (3, 5, "a", "a"), (4, 2, "a", "a"),
             (5, 6, "a", "a"), (6, 1, "a", "a")],
        )

    def test_several_in_a_row(self):
        self.assertEqual(
            links("[x](a)[y](b) [z](z)", "[x](a), [x](a)"),
            [(0, 0, "a", "a"), (0, 6, "b", "b"), (0, 13, "z", None), (1, 0, "a", "a"), (1, 8, "a", "a")],
        )

    def test_beside_strong(self):
        self.assertEqual(links("*[x](a)*"), [])
        self.assertEqual(links("*[x](a)"), [(0, 1, "a", "a")])
        self.assertEqual(links("**[x](a)*"), [])
        self.assertEqual(links("**[x](a)"), [(0, 2, "a", "a")])
        self.assertEqual(links("*s*[x](a)*t*"), [(0, 3, "a", "a")])
        self.assertEqual(links("[*x*](a)", "- *[x](a) y* [y](b)"), [(0, 0, "a", "a"), (1, 13, "b", "b")])
        self.assertEqual(links("# *a [x](a)", "[x*](a)*"), [(0, 5, "a", "a"), (1, 0, "a", "a")])

    def test_brackets(self):
        self.assertEqual(links("[[x](a)"), [(0, 0, "a", "a")])
        self.assertEqual(links("[x][y](a)"), [(0, 3, "a", "a")])
        self.assertEqual(links("[x](a)(b)[y]"), [(0, 0, "a", "a")])
        self.assertEqual(links("[x](z z) [y](a)"), [(0, 9, "a", "a")])

    def test_led(self):
        self.assertEqual(
            links("[o](old) [p](x/old)", "[d](draft) [l](later)", "[z](z/z)"),
            [(0, 0, "old", "a"), (0, 9, "x/old", "a"), (1, 0, "draft", None), (1, 11, "later", None),
             (2, 0, "z/z", None)],
        )
        site = site_with(b=("[l](later)",))
        site.set_today(10)
        self.assertEqual(links_of(site, "b"), [(0, 0, "later", "later")])

    def test_no_page(self):
        site = site_with(b=("[x](a)",))
        was = state_of(site)
        for thing in NO_PAGES:
            check_refused(self, NoPage, {"path": thing}, links_of, site, thing)
            check_refused(self, NoPage, {"path": thing}, links_of, path=thing, site=site)
        self.assertEqual(state_of(site), was)

    def test_told_anew(self):
        site = site_with(b=("[x](a)",))
        links_of(site, "b").clear()
        self.assertEqual(links_of(path="b", site=site), [(0, 0, "a", "a")])


class BrokenTest(unittest.TestCase):
    def test_none(self):
        self.assertEqual(broken(Site()), [])
        self.assertEqual(broken(site_with(b=("[x](a) [y](old) *[z](z)*", "[b](b)"))), [])

    def test_pages_by_rising_paths(self):
        site = site_with(c=("[z](z)",), b=("# [z](z)", "[a](a) [d](draft) [l](later)"))
        site.put("a/b", source_of("AB", day=8, rows=("- [n](n/o)",)))
        self.assertEqual(
            broken(site),
            [("a/b", 0, 2, "n/o"), ("b", 0, 2, "z"), ("b", 1, 7, "draft"), ("b", 1, 18, "later"), ("c", 0, 0, "z")],
        )

    def test_of_pages_alone(self):
        site = site_with()
        self.assertEqual(broken(site), [])
        site.set_today(10)
        self.assertEqual(broken(site), [("later", 1, 0, "z")])

    def test_what_comes_and_goes(self):
        site = site_with(b=("[o](old) [a](a)",))
        self.assertEqual(broken(site), [])
        site.move("a", "c")
        self.assertEqual(broken(site=site), [])
        site.drop("c")
        self.assertEqual(broken(site), [("b", 0, 0, "old"), ("b", 0, 9, "a")])


class BrokenToTest(unittest.TestCase):
    def told(self, **templates):
        site = site_with()
        for name, template in site_of(templates).template_by.items():
            site.hang(name, template)
        return broken_to(site)

    def test_none(self):
        self.assertEqual(broken_to(Site()), [])
        self.assertEqual(self.told(page="{to a} {to old}{to x/old}{title}{use gone}{pages z z}{when z}{done}to z"), [])

    def test_place_in_the_text(self):
        self.assertEqual(self.told(page="{to z}"), [("page", 5, "z")])
        self.assertEqual(self.told(page="in frame\n{to z}"), [("page", 9, "z")])
        self.assertEqual(self.told(page="in a\nto z\n<a>{title}\n{to z/z}."), [("page", 21, "z/z")])

    def test_drafts_and_days_to_come(self):
        self.assertEqual(self.told(page="{to draft}{to a}{to later}"), [("page", 5, "draft"), ("page", 21, "later")])

    def test_within_when_and_several(self):
        self.assertEqual(
            self.told(page="{when t}{to z}{when u}{when v}x{to y}{done}{to a}{done}{to z}{done}{to x}"),
            [("page", 13, "z"), ("page", 36, "y"), ("page", 60, "z"), ("page", 72, "x")],
        )

    def test_names_rising_used_or_not(self):
        self.assertEqual(
            self.told(b="{to y}", a="{to z}{to y}", page="{use b}", c="in c\n{to y}"),
            [("a", 5, "z"), ("a", 11, "y"), ("b", 5, "y"), ("c", 5, "y")],
        )

    def test_as_the_site_changes(self):
        site = site_of({"page": "{to a}"}, {"a": source_of("A")})
        self.assertEqual(broken_to(site), [])
        site.move("a", "b")
        self.assertEqual(broken_to(site=site), [])
        site.drop("b")
        self.assertEqual(broken_to(site), [("page", 5, "a")])


class LinkingTest(unittest.TestCase):
    def test_by_rising_paths(self):
        site = site_with(c=("[x](a)", "[y](a)"), b=("[x](old)",), d=("[x](z)", "*[x](a)*"), e=("# [x](x/old)",))
        self.assertEqual(linking(site, "a"), ["b", "c", "e"])
        self.assertEqual(linking(path="b", site=site), [])

    def test_led_to_what_is_no_page(self):
        site = site_with(b=("[x](z) [y](draft) [o](old)",))
        for path in ("z", "draft", "later", "old", "x/old", "n/o"):
            self.assertEqual(linking(site, path), [])

    def test_itself_and_rings(self):
        site = site_with(b=("[x](b)",), c=("[x](d)",), d=("[x](c) [y](d)",))
        self.assertEqual(linking(site, "b"), ["b"])
        self.assertEqual(linking(site, "c"), ["d"])
        self.assertEqual(linking(site, "d"), ["c", "d"])

    def test_pages_alone_link(self):
        site = site_with()
        self.assertEqual(linking(site, "a"), [])
        site.set_today(10)
        self.assertEqual(linking(site, "a"), ["later"])


class ReachedTest(unittest.TestCase):
    def test_itself_alone(self):
        site = site_with(b=("[z](z) [d](draft)",), c=("[c](c)",))
        for path in "abc":
            self.assertEqual(reached(site, path), [path])

    def test_one_behind_the_other(self):
        site = site_with(b=("[x](c) [y](z)",), c=("[x](d)",), d=("[x](old)",), e=("[x](b)",))
        self.assertEqual(reached(site, "b"), ["a", "b", "c", "d"])
        self.assertEqual(reached(site, "d"), ["a", "d"])
        self.assertEqual(reached(path="e", site=site), ["a", "b", "c", "d", "e"])

    def test_rings(self):
        site = site_with(b=("[x](c)",), c=("[x](d)", "[y](c)"), d=("[x](b)", "[y](c)"), e=("[x](d)",))
        for path in "bcd":
            self.assertEqual(reached(site, path), ["b", "c", "d"])
        self.assertEqual(reached(site, "e"), ["b", "c", "d", "e"])

    def test_not_by_drafts(self):
        site = site_with(b=("[x](later) [y](draft)",))
        self.assertEqual(reached(site, "b"), ["b"])
        site.set_today(10)
        self.assertEqual(reached(site, "b"), ["a", "b", "later"])

    def test_no_page(self):
        site = site_with(b=("[x](a)",))
        was = state_of(site)
        for thing in NO_PAGES:
            check_refused(self, NoPage, {"path": thing}, reached, site, thing)
            check_refused(self, NoPage, {"path": thing}, reached, path=thing, site=site)
        self.assertEqual(state_of(site), was)

    def test_told_anew(self):
        site = site_with(b=("[x](a)",))
        reached(site, "b").clear()
        self.assertEqual(reached(site, "b"), ["a", "b"])


class RingOfTest(unittest.TestCase):
    def test_none(self):
        site = site_of({"page": "in a\n{use b}{pages t b}{use gone}", "a": "{use b}", "b": "", "r": "{use r}"})
        for name in ("page", "a", "b"):
            self.assertIsNone(ring_of(site, name))
        self.assertEqual(rings(site), ["r"])
        self.assertEqual(rings(Site()), [])

    def test_itself(self):
        for text in ("in page\n", "{use page}", "{pages t page}", "{when t}{when u}{use page}{done}{done}"):
            site = site_of({"page": text})
            self.assertEqual((ring_of(site, "page"), rings(site)), (["page", "page"], ["page"]))

    def test_one_that_leads_to_a_ring_has_none(self):
        site = site_of({"page": "{use a}", "a": "in b\n", "b": "{pages t a}"})
        self.assertIsNone(ring_of(site, "page"))
        self.assertEqual(ring_of(site, "a"), ["a", "b", "a"])
        self.assertEqual(ring_of(site, "b"), ["b", "a", "b"])
        self.assertEqual(rings(site), ["a", "b"])

    def test_the_shortest(self):
        site = site_of({"a": "{use b}{use e}", "b": "{use c}", "c": "{use d}", "d": "{use a}", "e": "{use a}"})
        self.assertEqual(ring_of(site, "a"), ["a", "e", "a"])
        self.assertEqual(ring_of(site, "c"), ["c", "d", "a", "b", "c"])
        site.hang("a", ("a", (("use", "b"), ("use", "e"))))
        self.assertEqual(ring_of(site, "a"), ["a", "a"])

    def test_of_several_the_first(self):
        site = site_of({"a": "{use d}{use c}{use b}", "b": "{use f}{use e}", "c": "{use e}{use a}", "d": "in a\n",
                        "e": "{use a}", "f": "{use a}"})
        self.assertEqual(ring_of(site, "a"), ["a", "c", "a"])
        site.hang("c", ("", (("use", "e"),)))
        site.unhang("d")
        self.assertEqual(ring_of(site, "a"), ["a", "b", "e", "a"])
        self.assertEqual(ring_of(site, "f"), ["f", "a", "b", "f"])
        self.assertEqual(rings(site), ["a", "b", "c", "e", "f"])

    def test_round_eight(self):
        names = "abcdefgh"
        site = site_of({name: "{use " + names[at - 7] + "}" for at, name in enumerate(names)})
        self.assertEqual(ring_of(site, "h"), list("habcdefgh"))
        self.assertEqual(rings(site), list(names))

    def test_no_name(self):
        site = site_of({"page": "{use gone}{use page}"})
        was = state_of(site)
        for thing in OTHER_THINGS + ("gone", "a/b", ("page",), ["page"], "abcdefghi"):
            check_refused(self, NoName, {"name": thing}, ring_of, site, thing)
            check_refused(self, NoName, {"name": thing}, ring_of, name=thing, site=site)
        self.assertEqual(state_of(site), was)

    def test_told_anew(self):
        site = site_of({"page": "{use page}"})
        ring_of(site, "page").clear()
        rings(site).clear()
        self.assertEqual((ring_of(name="page", site=site), rings(site=site)), (["page", "page"], ["page"]))


class ChanceTest(unittest.TestCase):
    """A second telling of all over sites by chance."""

    NAMES, TAGS, PATHS = ("page", "a", "b", "c"), "tu", ("a", "b", "c/d", "e", "f")

    def sites(self, seed, times, steps):
        chance = random.Random(seed)
        for time in range(times):
            site = Site(today=2)
            for step in range(steps):
                chance_deed(chance, site, self.NAMES, self.TAGS, self.PATHS)
            yield site

    def test_links(self):
        many = nowhere = 0
        for site in self.sites(191, 400, 25):
            leads = {}
            for path in site.pages():
                rows = site.source(path)[6]
                told = links_of(site, path)
                self.assertEqual([target for row, at, target, led in told], targets_of(blocks_of(rows)))
                self.assertEqual(told, sorted(told, key=lambda link: link[:2]))
                for row, at, target, led in told:
                    self.assertRegex(rows[row][at:], r"^\[[^]]+\]\(" + target + r"\)")
                    self.assertEqual(led, site.lead(target))
                    many += 1
                leads[path] = {led for row, at, target, led in told} - {None}
            self.assertEqual(
                broken(site),
                [(path,) + link[:3] for path in sorted(leads) for link in links_of(site, path) if link[3] is None],
            )
            nowhere += len(broken(site))
            for path in site.pages():
                self.assertEqual(linking(site, path), sorted(page for page in leads if path in leads[page]))
                found, left = set(), [path]
                while left:
                    page = left.pop()
                    left.extend(leads[page] - found - {page})
                    found.add(page)
                self.assertEqual(reached(site, path), sorted(found))
        self.assertGreater(many, 400)
        self.assertGreater(nowhere, 50)

    def test_broken_to(self):
        many = 0
        for site in self.sites(192, 400, 25):
            found = []
            for name in site.names():
                for hole in re.finditer(r"\{to ([a-z/]+)\}", template_text(site.template(name))):
                    if site.lead(hole.group(1)) is None:
                        found.append((name, hole.start(), hole.group(1)))
            self.assertEqual(broken_to(site), found)
            many += len(found)
        self.assertGreater(many, 50)

    def test_rings(self):
        lengths = []
        for site in self.sites(193, 250, 25):
            calls = {name: {called for word, called in calls_of(site.template(name))} for name in site.names()}
            found = []
            for name in site.names():
                roads = [[name]]
                while roads and not [road for road in roads if name in calls.get(road[-1], ())]:
                    roads = [
                        road + [called] for road in roads if len(road) <= len(calls)
                        for called in calls.get(road[-1], ())
                    ]
                ends = sorted(road + [name] for road in roads if name in calls.get(road[-1], ()))
                self.assertEqual(ring_of(site, name), ends[0] if ends else None)
                found.extend([name] if ends else [])
                lengths.extend([len(ends[0])] if ends else [])
            self.assertEqual(rings(site), found)
        for length in (2, 3, 4):
            self.assertIn(length, lengths)


if __name__ == "__main__":
    unittest.main()

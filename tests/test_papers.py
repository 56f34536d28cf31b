import random
import unittest

from checks import chance_deed, chance_layers, check_refused, site_of, state_of
from pagemaker.errors import NoAddress, NoRead
from pagemaker.facts import fact
from pagemaker.made import made, reads_at
from pagemaker.maker import Maker
from pagemaker.papers import least_paper, shows_least, text_by
from pagemaker.sites import Site
from pagemaker.sources import source_of
from makers import deeds_to
from test_addresses import NO_ADDRESSES
from test_made import full_site
from things import OTHER_THINGS

NAMES, TAGS, PATHS = ("page", "a", "b", "c"), "tuv", ("a", "b", "c/d", "e", "f")


def sites_by_chance(seed, many):
    """Sites whose pages are mostly filled, and behind some deeds."""
    chance = random.Random(seed)
    for time in range(many):
        site = chance_layers(chance, NAMES, TAGS, PATHS)
        for step in range(chance.randrange(6)):
            chance_deed(chance, site, NAMES, TAGS, PATHS)
        yield chance, site


def all_facts(site):
    """The list of pairs of all facts that any page, part or old name of such a site may read."""
    keys = [(word, path) for word in ("title", "day", "tags", "under", "rows", "lead") for path in PATHS]
    keys += [("template", name) for name in NAMES] + [("tag", tag) for tag in TAGS]
    keys += [("part", tag, number) for tag in TAGS for number in range(1, 7)]
    return [(key, fact(site, key)) for key in keys]


class TextByTest(unittest.TestCase):
    def refused(self, error, fields, address, reads):
        handed = repr(reads)
        check_refused(self, error, fields, text_by, address, reads)
        check_refused(self, error, fields, text_by, reads=reads, address=address)
        self.assertEqual(repr(reads), handed)

    def told(self, kind, text, address, reads):
        handed = repr(reads)
        self.assertEqual(repr(text_by(address, reads)), repr((kind, text)))
        self.assertEqual(text_by(reads=reads, address=address), (kind, text))
        self.assertEqual(repr(reads), handed)

    def test_of_the_reads_what_is_made(self):
        site = full_site()
        for address, kind, text in made(site):
            self.told(kind, text, address, reads_at(site, address))

    def test_more_facts_and_in_another_order(self):
        site = full_site()
        more = [(("title", "zz"), None), (("lead", "zz"), "a"), (("part", "zz", 3), (("a",), 4)), (("tag", "zz"), ())]
        for address, kind, text in made(site):
            self.told(kind, text, address, more + reads_at(site, address)[::-1])

    def test_each_fact_left_out(self):
        site = full_site()
        for address, kind, text in made(site):
            reads = reads_at(site, address)
            for at, (key, value) in enumerate(reads):
                left = key if key[0] != "lead" or kind != "moved" else ("under", address[1:])
                self.refused(NoRead, {"key": left}, address, reads[:at] + reads[at + 1:])
                self.refused(NoRead, {"key": left}, address, reads[at + 1:][::-1] + reads[:at][::-1])

    def test_the_first_of_several_left_out(self):
        site = site_of(
            {"page": "in b\n{body}{title}{use a}", "a": "{day}{pages t c}", "b": "{inner}{to z}{when u}{done}", "c": "{day}"},
            {"x": source_of("X", tags=("t",), rows=("[y](y)",)), "y": source_of("Y", day=1, tags=("t",))},
        )
        reads = reads_at(site, "/x")
        self.assertEqual([key for key, value in reads], [
            ("under", "x"), ("template", "page"), ("template", "b"), ("template", "a"), ("template", "c"), ("rows", "x"),
            ("lead", "y"), ("title", "x"), ("day", "x"), ("tag", "t"), ("day", "y"), ("lead", "z"), ("tags", "x"),
        ])
        for at in range(len(reads)):
            self.refused(NoRead, {"key": reads[at][0]}, "/x", reads[:at])
            for other in range(at):
                kept = reads[:other] + reads[other + 1:at] + reads[at + 1:]
                self.refused(NoRead, {"key": reads[other][0]}, "/x", kept)

    def test_what_is_read_by_other_facts(self):
        reads = [(("under", "a"), "page"), (("template", "page"), ("", (("field", "title"), ("use", "b")))),
                 (("template", "b"), None)]
        self.told("fault", "none page b", "/a", reads)
        reads[2] = (("template", "b"), ("", (("use", "page"),)))
        self.told("fault", "ring page b page", "/a", reads)
        reads[2] = (("template", "b"), ("", (("to", "z"),)))
        self.refused(NoRead, {"key": ("title", "a")}, "/a", reads)
        reads.append((("title", "a"), "<T>"))
        self.refused(NoRead, {"key": ("lead", "z")}, "/a", reads)
        self.told("page", "&lt;T&gt;nowhere", "/a", reads + [(("lead", "z"), None)])
        self.told("page", "&lt;T&gt;/y/y", "/a", reads + [(("lead", "z"), "y/y")])

    def test_under_left_out_or_none(self):
        under, lead = ("under", "a/b"), ("lead", "a/b")
        moved = '<a href="/c">moved</a>'
        self.refused(NoRead, {"key": under}, "/a/b", [])
        self.refused(NoRead, {"key": under}, "/a/b", [(("lead", "a"), "c"), (("under", "a"), "page")])
        self.refused(NoRead, {"key": lead}, "/a/b", [(under, None)])
        self.told("moved", moved, "/a/b", [(lead, "c")])
        self.told("moved", moved, "/a/b", [(lead, "c"), (under, None)])
        self.told("moved", moved, "/a/b", [(under, None), (lead, "c")])
        for reads in ([(lead, None)], [(lead, "a/b")], [(under, None), (lead, None)], [(under, None), (lead, "a/b")]):
            self.refused(NoAddress, {"address": "/a/b"}, "/a/b", reads)
        self.refused(NoRead, {"key": ("template", "page")}, "/a/b", [(under, "page"), (lead, "c")])
        self.refused(NoRead, {"key": ("template", "page")}, "/a/b", [(under, "page"), (lead, None)])

    def test_parts(self):
        key = ("part", "t", 2)
        self.refused(NoRead, {"key": key}, "/tag/t/2", [])
        self.refused(NoRead, {"key": ("part", "t", 1)}, "/tag/t", [(key, (("a",), 2))])
        self.refused(NoAddress, {"address": "/tag/t/2"}, "/tag/t/2", [(key, None)])
        self.refused(NoAddress, {"address": "/tag/t"}, "/tag/t", [(("part", "t", 1), None), (("title", "a"), "A")])
        self.refused(NoRead, {"key": ("title", "a")}, "/tag/t/2", [(key, (("a", "b"), 2))])
        self.refused(NoRead, {"key": ("title", "b")}, "/tag/t/2", [(key, (("a", "b"), 2)), (("title", "a"), "A")])
        titles = [(("title", "b"), "B"), (("title", "a"), "A&")]
        self.told(
            "part",
            '<h1>t 2/2</h1>\n<li><a href="/a">A&amp;</a></li>\n<li><a href="/b">B</a></li>\n<a href="/tag/t">before</a>',
            "/tag/t/2", titles + [(key, (("a", "b"), 2))],
        )

    def test_numbers_beyond_what_a_site_has(self):
        titles = [(("title", "a"), "A")]
        self.told(
            "part",
            '<h1>t 50/123</h1>\n<li><a href="/a">A</a></li>\n<a href="/tag/t/49">before</a>\n<a href="/tag/t/51">behind</a>',
            "/tag/t/50", titles + [(("part", "t", 50), (("a",), 123))],
        )
        big = 10 ** 20
        self.told(
            "part", f'<h1>t {big}/{big}</h1>\n<a href="/tag/t/{big - 1}">before</a>', f"/tag/t/{big}",
            [(("part", "t", big), ((), big))],
        )
        self.told(
            "page", "123456", "/a",
            [(("under", "a"), "p"), (("template", "p"), ("", (("field", "day"),))), (("day", "a"), 123456)],
        )
        huge = "/tag/t/" + "9" * 5000
        with self.assertRaises(NoRead):
            text_by(huge, [])
        with self.assertRaises(NoAddress) as caught:
            text_by(huge, [(("part", "t", 10 ** 5000 - 1), None)])
        self.assertEqual(caught.exception.address, huge)

    def test_no_address(self):
        for thing in NO_ADDRESSES:
            self.refused(NoAddress, {"address": thing}, thing, [])
            self.refused(NoAddress, {"address": thing}, thing, all_facts(Site()))

    def test_kept_so_that_no_change_is_seen(self):
        thing = ["/a"]
        caught = check_refused(self, NoAddress, {"address": ["/a"]}, text_by, thing, [])
        thing.append("b")
        self.assertEqual(caught.address, ["/a"])

    def test_all_facts_of_a_site_tell_what_it_has_and_no_more(self):
        addresses = ["/" + path for path in PATHS] + ["/tag/" + tag for tag in TAGS]
        addresses += [f"/tag/{tag}/{number}" for tag in TAGS for number in range(2, 7)]
        kinds = []
        for chance, site in sites_by_chance(22, 60):
            facts = all_facts(site)
            chance.shuffle(facts)
            pairs = {address: (kind, text) for address, kind, text in made(site)}
            for address in addresses:
                if address in pairs:
                    self.assertEqual(text_by(address, facts), pairs[address])
                    kinds.append(pairs[address][0])
                else:
                    check_refused(self, NoAddress, {"address": address}, text_by, address, facts)
        for kind in ("page", "fault", "part", "moved"):
            self.assertGreater(kinds.count(kind), 10)

    def test_each_fact_left_out_by_chance(self):
        for chance, site in sites_by_chance(23, 40):
            for address, kind, text in made(site):
                reads = reads_at(site, address)
                self.assertEqual(text_by(address, reads), (kind, text))
                at = chance.randrange(len(reads))
                key = reads[at][0]
                rest = reads[:at] + reads[at + 1:]
                chance.shuffle(rest)
                if kind == "moved":
                    check_refused(self, NoRead, {"key": ("under", address[1:])}, text_by, address, rest)
                elif at == 0 and (("lead", address[1:]), address[1:]) in rest:
                    check_refused(self, NoAddress, {"address": address}, text_by, address, rest)
                else:
                    check_refused(self, NoRead, {"key": key}, text_by, address, rest)


def changed(site, *deeds):
    """A Site like this one, and the deeds done on it."""
    other = site.like()
    for word, *handed in deeds:
        getattr(other, word)(*handed)
    return other


class LeastPaperTest(unittest.TestCase):
    def setUp(self):
        self.site = site_of(
            {"page": "<{title}>{when u}{day}{done}", "list": "{pages t page}"},
            {"a": source_of("A", day=3, tags=("t",), olds=("old",)), "b": source_of("B", under="list")},
        )

    def test_like_ones(self):
        self.assertEqual(least_paper(self.site, self.site), [])
        self.assertEqual(least_paper(self.site, self.site.like()), [])
        self.assertEqual(least_paper(Site(), Site(today=5)), [])

    def test_what_the_first_has_not(self):
        self.assertEqual(
            repr(least_paper(Site(), self.site)),
            repr([(address, None, None, None) for address in ("/a", "/b", "/old", "/tag/t")]),
        )
        self.assertEqual(least_paper(behind=Site(), ahead=self.site), [])

    def test_one_fact_otherwise(self):
        behind = changed(self.site, ("put", "a", source_of("New", day=3, tags=("t",), olds=("old",))))
        key = ("title", "a")
        self.assertEqual(
            repr(least_paper(self.site, behind)),
            repr([("/a", key, "A", "New"), ("/b", key, "A", "New"), ("/tag/t", key, "A", "New")]),
        )

    def test_the_first_of_several(self):
        behind = changed(self.site, ("put", "a", source_of("New", day=4, tags=("t", "u"))), ("move", "b", "c"))
        self.assertEqual(
            repr(least_paper(self.site, behind)),
            repr([
                ("/a", ("title", "a"), "A", "New"), ("/b", ("under", "b"), "list", None), ("/c", None, None, None),
                ("/tag/t", ("title", "a"), "A", "New"), ("/tag/u", None, None, None),
            ]),
        )

    def test_none_and_tuples_among_the_values(self):
        behind = changed(self.site, ("drop", "a"))
        self.assertEqual(repr(least_paper(self.site, behind)), repr([("/b", ("tag", "t"), ("a",), ())]))
        behind = changed(self.site, ("unhang", "page"))
        template = self.site.template("page")
        self.assertEqual(
            repr(least_paper(self.site, behind)),
            repr([("/a", ("template", "page"), template, None), ("/b", ("template", "page"), template, None)]),
        )
        self.assertEqual(
            repr(least_paper(behind, self.site)),
            repr([("/a", ("template", "page"), None, template), ("/b", ("template", "page"), None, template)]),
        )

    def test_as_a_maker_tells(self):
        many = 0
        for chance, ahead in sites_by_chance(24, 60):
            behind = ahead.like()
            for step in range(chance.randrange(4)):
                chance_deed(chance, behind, NAMES, TAGS, PATHS)
            paper = least_paper(ahead, behind)
            maker = Maker(today=ahead.today(), most=ahead.most())
            maker.do(deeds_to(ahead))
            maker.make()
            maker.do([("drop", path) for path in ahead.paths()] + [("unhang", name) for name in ahead.names()])
            maker.do(deeds_to(behind) + [("set_today", behind.today()), ("set_most", behind.most())])
            self.assertEqual([(address, key) for address, key, was, now in paper], maker.stale()[0])
            for address, key, was, now in paper:
                if key is not None:
                    self.assertEqual((was, now), (fact(ahead, key), fact(behind, key)))
                    self.assertNotEqual(was, now)
                    self.assertIn((key, was), reads_at(ahead, address))
                else:
                    self.assertEqual((was, now), (None, None))
            self.assertTrue(shows_least(ahead, behind, paper))
            many += len(paper)
        self.assertGreater(many, 100)

    def test_nothing_is_changed_and_all_told_anew(self):
        behind = changed(self.site, ("set_most", 1), ("drop", "a"))
        was = (state_of(self.site), state_of(behind))
        paper = least_paper(self.site, behind)
        least_paper(self.site, behind).clear()
        self.assertEqual(least_paper(self.site, behind), paper)
        self.assertEqual((state_of(self.site), state_of(behind)), was)


class ShowsLeastTest(unittest.TestCase):
    def setUp(self):
        self.ahead = site_of(
            {"page": "<{title}>{when u}{day}{done}{pages t item}", "item": "{day}"},
            {"a": source_of("A", day=1, tags=("t",), olds=("old",)), "b": source_of("B", day=0, rows=("x",)),
             "c": source_of("C", tags=("u",))},
        )
        self.behind = changed(
            self.ahead, ("put", "c", source_of("C", day=1, tags=("t", "u"))), ("put", "n", source_of("N")),
            ("put", "a", source_of("A", day=2, tags=("t",))),
        )
        self.paper = least_paper(self.ahead, self.behind)

    def shows(self, thing):
        handed = repr(thing)
        told = shows_least(self.ahead, self.behind, thing)
        self.assertIs(shows_least(thing=thing, behind=self.behind, ahead=self.ahead), told)
        self.assertEqual(repr(thing), handed)
        self.assertIsInstance(told, bool)
        return told

    def test_the_paper(self):
        self.assertEqual(
            self.paper,
            [("/a", ("tag", "t"), ("a",), ("a", "c")), ("/b", ("tag", "t"), ("a",), ("a", "c")),
             ("/c", ("tags", "c"), ("u",), ("t", "u")), ("/n", None, None, None),
             ("/tag/t", ("part", "t", 1), (("a",), 1), (("a", "c"), 1))],
        )
        self.assertTrue(self.shows(self.paper))

    def test_in_another_order(self):
        chance = random.Random(25)
        for time in range(20):
            rows = list(self.paper)
            chance.shuffle(rows)
            self.assertTrue(self.shows(rows))

    def test_a_row_left_out_or_twice(self):
        for at, row in enumerate(self.paper):
            self.assertFalse(self.shows(self.paper[:at] + self.paper[at + 1:]))
            self.assertFalse(self.shows(self.paper + [row]))
            # As many rows as are due, one of them twice in the place of another one.
            self.assertFalse(self.shows(self.paper[:at] + self.paper[at + 1:] + [self.paper[at - 1]]))
        self.assertFalse(self.shows([]))

    def test_one_more(self):
        for row in (
            ("/tag/u", ("part", "u", 1), (("c",), 1), (("c",), 1)), ("/zz", None, None, None),
            ("/old", ("lead", "old"), "a", None), ("/a", ("day", "a"), 1, 2), None, (),
        ):
            self.assertFalse(self.shows(self.paper + [row]))
            self.assertFalse(self.shows(self.paper[1:] + [row]))

    def test_other_rows(self):
        for at, (address, key, was, now) in enumerate(self.paper):
            others = [
                (address, key, now, was) if was != now else (address, (), was, now), (address, key, was),
                (address, key, was, now, None), [address, key, was, now], (address, ("day", "a"), 1, 2),
                (address, ("day", "a"), was, now), ("/z", key, was, now), (address, key, was, was or ()),
                (address, key, now or 0, now), (address, key and list(key) or [], was, now), (address,), address, None,
                (address, key, list(was or ()), now), (address, key, was, list(now or ())),
            ]
            for other in others:
                self.assertFalse(self.shows(self.paper[:at] + [other] + self.paper[at + 1:]), other)

    def test_true_for_one_and_lists_for_tuples(self):
        rest = self.paper[:4]
        self.assertTrue(self.shows(rest + [("/tag/t", ("part", "t", 1), (("a",), 1), (("a", "c"), 1))]))
        for row in (
            ("/tag/t", ("part", "t", True), (("a",), 1), (("a", "c"), 1)),
            ("/tag/t", ("part", "t", 1), (("a",), True), (("a", "c"), 1)),
            ("/tag/t", ("part", "t", 1), (("a",), 1), (("a", "c"), True)),
            ("/tag/t", ("part", "t", 1), (["a"], 1), (("a", "c"), 1)),
            ("/tag/t", ("part", "t", 1), [("a",), 1], (("a", "c"), 1)),
            ("/tag/t", ["part", "t", 1], (("a",), 1), (("a", "c"), 1)),
            ("/tag/t", ("part", "t", 1), (("a",), "1"), (("a", "c"), 1)),
            ("/tag/t", ("part", "t", 1), (("a",), 1), (("c", "a"), 1)),
        ):
            self.assertFalse(self.shows(rest + [row]))

    def test_true_and_false_for_days(self):
        ahead = site_of({"page": "{day}"}, {"a": source_of("A", day=0)})
        behind = changed(ahead, ("put", "a", source_of("A", day=1)))
        for was, now, so in ((0, 1, True), (False, 1, False), (0, True, False), (False, True, False), (1, 0, False)):
            self.assertIs(shows_least(ahead, behind, [("/a", ("day", "a"), was, now)]), so)

    def test_no_list(self):
        for thing in OTHER_THINGS + (tuple(self.paper), [self.paper], "", [[]], [list(row) for row in self.paper]):
            self.assertFalse(self.shows(thing), thing)

    def test_of_like_sites(self):
        for thing in OTHER_THINGS:
            self.assertIs(shows_least(self.ahead, self.ahead.like(), thing), thing == [] and isinstance(thing, list))

    def test_nothing_is_changed(self):
        was = (state_of(self.ahead), state_of(self.behind))
        self.shows(self.paper)
        self.assertEqual((state_of(self.ahead), state_of(self.behind)), was)


if __name__ == "__main__":
    unittest.main()

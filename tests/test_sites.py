import random
import unittest

from checks import check_refused, state_of
from pagemaker.errors import BadName, BadNumber, BadPath, BadSource, BadTemplate, NoName, NoPath, Taken, TooMany
from pagemaker.sites import Site
from pagemaker.sources import source_of
from things import OTHER_THINGS

SOURCE = source_of("Title", day=3, tags=("a", "b"), olds=("x", "y/z"), rows=("one", ""))
TEMPLATE = ("frame", (("plain", "a"), ("when", "t", (("field", "body"),))))
EMPTY = ("", ())
NO_PATHS = OTHER_THINGS + ("tag", "tag/a", "a/b/c/d", "/a", ("a",), ["a"])
NO_NAMES = OTHER_THINGS + ("a/b", "abcdefghi", ("page",), ["page"])
TWELVE = "abcdefghijkl"
EIGHT = "abcdefgh"


def site_with(**sources):
    """A Site of day 5 with these sources."""
    site = Site(today=5)
    for path, source in sources.items():
        site.put(path, source)
    return site


class SiteTest(unittest.TestCase):
    """Checks each refusal, and that the Site is behind it as it was."""

    def setUp(self):
        self.site = site_with(a=SOURCE, b=source_of("B", draft=True))
        self.site.hang("page", TEMPLATE)

    def refused(self, error, fields, deed, *handed, **named):
        was = state_of(self.site)
        check_refused(self, error, fields, deed, *handed, **named)
        self.assertEqual(repr(state_of(self.site)), repr(was))


class NewTest(unittest.TestCase):
    def test_bare(self):
        site = Site()
        self.assertEqual(state_of(site), ([], [], 0, 4, 0, "Site(0 sources, 0 templates, day 0)"))
        self.assertEqual((site.pages(), site.tags(), site.pages_of("a"), site.lead("a")), ([], [], [], None))

    def test_today_and_most(self):
        for today in (0, 1, 999):
            self.assertEqual(Site(today=today).today(), today)
        for most in (1, 4, 9):
            self.assertEqual(Site(most=most).most(), most)
        site = Site(most=2, today=7)
        self.assertEqual((site.today(), site.most()), (7, 2))

    def test_by_their_names_alone(self):
        with self.assertRaises(TypeError):
            Site(5)


class PutTest(SiteTest):
    def test_put(self):
        self.assertIsNone(self.site.put("c/d", SOURCE))
        self.assertEqual(self.site.source("c/d"), SOURCE)
        self.assertEqual(self.site.paths(), ["a", "b", "c/d"])
        self.assertIsNone(self.site.put(source=SOURCE, path="c/e"))
        self.assertEqual(len(self.site), 4)

    def test_at_what_stands_already(self):
        other = source_of("Other")
        self.site.put("a", other)
        self.assertEqual(self.site.source("a"), other)
        self.assertEqual(self.site.paths(), ["a", "b"])

    def test_no_path(self):
        for thing in NO_PATHS:
            self.refused(BadPath, {"path": thing}, self.site.put, thing, SOURCE)

    def test_no_source(self):
        for thing in OTHER_THINGS + (SOURCE[:6], SOURCE + (1,), list(SOURCE)):
            part = "title" if isinstance(thing, tuple) and len(thing) == 7 else "tuple"
            self.refused(BadSource, {"part": part}, self.site.put, "c", thing)

    def test_each_part(self):
        wrong = {
            "title": " a", "day": True, "draft": 0, "tags": ("b", "a"), "under": "", "olds": ["a"], "rows": ("a\n",),
        }
        for at, part in enumerate(wrong):
            source = SOURCE[:at] + (wrong[part],) + SOURCE[at + 1:]
            self.refused(BadSource, {"part": part}, self.site.put, "a", source)
            # All parts from there on are wrong.
            source = SOURCE[:at] + tuple(wrong.values())[at:]
            self.refused(BadSource, {"part": part}, self.site.put, "c", source)

    def test_twelve_sources(self):
        for path in TWELVE:
            self.site.put(path, SOURCE)
        self.assertEqual(len(self.site), 12)
        self.refused(TooMany, {"many": 12}, self.site.put, "m", SOURCE)
        self.refused(TooMany, {"many": 12}, self.site.put, "a/a", SOURCE)
        self.site.put("l", source_of("Other"))
        self.assertEqual(self.site.source("l")[0], "Other")
        self.site.drop("a")
        self.site.put("m", SOURCE)
        self.assertEqual(self.site.paths(), list(TWELVE[1:] + "m"))

    def test_several_refusals_due(self):
        for path in TWELVE:
            self.site.put(path, SOURCE)
        self.refused(BadPath, {"path": "tag"}, self.site.put, "tag", None)
        self.refused(BadSource, {"part": "tuple"}, self.site.put, "m", None)
        self.refused(BadSource, {"part": "rows"}, self.site.put, "m", SOURCE[:6] + (0,))


class DropTest(SiteTest):
    def test_drop(self):
        self.assertIsNone(self.site.drop("a"))
        self.assertEqual(self.site.paths(), ["b"])
        self.assertIsNone(self.site.drop(path="b"))
        self.assertEqual(self.site.paths(), [])

    def test_nothing_there(self):
        for thing in NO_PATHS + ("c", "a/b"):
            self.refused(NoPath, {"path": thing}, self.site.drop, thing)
        self.site.drop("a")
        self.refused(NoPath, {"path": "a"}, self.site.drop, "a")


class MoveTest(SiteTest):
    def moved(self, path, to, olds):
        """The site's source is moved and is but for its olds as it was."""
        source = self.site.source(path)
        self.assertIsNone(self.site.move(path, to))
        self.assertEqual(self.site.source(to), source[:5] + (olds,) + source[6:])
        self.assertNotIn(path, self.site.paths())

    def test_move(self):
        self.moved("a", "c/d", ("a", "x", "y/z"))
        self.moved("c/d", "e", ("a", "c/d", "x", "y/z"))
        self.assertIsNone(self.site.move(to="f", path="e"))
        self.assertEqual(self.site.paths(), ["b", "f"])

    def test_path_among_the_olds_already(self):
        self.site.put("x", SOURCE)
        self.moved("x", "c", ("x", "y/z"))

    def test_to_among_the_olds(self):
        self.moved("a", "x", ("a", "y/z"))
        self.moved("x", "a", ("x", "y/z"))
        self.moved("a", "y/z", ("a", "x"))

    def test_there_and_back(self):
        self.moved("b", "c", ("b",))
        self.moved("c", "b", ("c",))

    def test_nothing_there(self):
        for thing in NO_PATHS + ("c", "a/b"):
            self.refused(NoPath, {"path": thing}, self.site.move, thing, "d")
            self.refused(NoPath, {"path": thing}, self.site.move, thing, "tag")
            self.refused(NoPath, {"path": thing}, self.site.move, thing, "a")

    def test_to_no_path(self):
        for thing in NO_PATHS:
            self.refused(BadPath, {"path": thing}, self.site.move, "a", thing)

    def test_taken(self):
        self.refused(Taken, {"path": "b"}, self.site.move, "a", "b")
        self.refused(Taken, {"path": "a"}, self.site.move, "a", "a")

    def test_six_olds(self):
        five = source_of("T", olds=tuple("pqrst"))
        six = source_of("T", olds=tuple("pqrstu"))
        self.site.put("c", five)
        self.moved("c", "d", tuple("cpqrst"))
        self.refused(TooMany, {"many": 6}, self.site.move, "d", "e")
        self.refused(Taken, {"path": "a"}, self.site.move, "d", "a")
        self.refused(Taken, {"path": "d"}, self.site.move, "d", "d")
        self.refused(BadPath, {"path": "D"}, self.site.move, "d", "D")
        # One of the six goes for the one that comes, or path is one of the six.
        self.moved("d", "q", tuple("cdprst"))
        self.site.put("r", six)
        self.moved("r", "e", tuple("pqrstu"))
        self.site.put("t", six)
        self.moved("t", "u", tuple("pqrst"))


class HangTest(SiteTest):
    def test_hang(self):
        self.assertIsNone(self.site.hang("foot", EMPTY))
        self.assertEqual(self.site.template("foot"), EMPTY)
        self.assertEqual(self.site.names(), ["foot", "page"])
        self.assertIsNone(self.site.hang(template=TEMPLATE, name="head"))
        self.assertEqual(self.site.template("head"), TEMPLATE)

    def test_at_what_stands_already(self):
        self.site.hang("page", EMPTY)
        self.assertEqual(self.site.template("page"), EMPTY)
        self.assertEqual(self.site.names(), ["page"])

    def test_no_name(self):
        for thing in NO_NAMES:
            self.refused(BadName, {"name": thing}, self.site.hang, thing, EMPTY)

    def test_no_template(self):
        for thing in OTHER_THINGS + (["", ()], ("", []), ("-", ()), ("", (("field", "rows"),)), EMPTY + ((),)):
            self.refused(BadTemplate, {"name": "foot"}, self.site.hang, "foot", thing)
            self.refused(BadTemplate, {"name": "page"}, self.site.hang, "page", thing)

    def test_eight_templates(self):
        self.site.unhang("page")
        for name in EIGHT:
            self.site.hang(name, EMPTY)
        self.refused(TooMany, {"many": 8}, self.site.hang, "i", EMPTY)
        self.site.hang("h", TEMPLATE)
        self.assertEqual(self.site.template("h"), TEMPLATE)
        self.site.unhang("a")
        self.site.hang("i", EMPTY)
        self.assertEqual(self.site.names(), list("bcdefghi"))

    def test_several_refusals_due(self):
        for name in EIGHT[1:]:
            self.site.hang(name, EMPTY)
        self.refused(BadName, {"name": "A"}, self.site.hang, "A", None)
        self.refused(BadTemplate, {"name": "z"}, self.site.hang, "z", None)

    def test_unhang(self):
        self.assertIsNone(self.site.unhang("page"))
        self.assertEqual(self.site.names(), [])
        self.refused(NoName, {"name": "page"}, self.site.unhang, "page")
        self.site.hang("page", EMPTY)
        self.assertIsNone(self.site.unhang(name="page"))

    def test_none_called_so(self):
        for thing in NO_NAMES + ("foot", "a"):
            self.refused(NoName, {"name": thing}, self.site.unhang, thing)


class NumbersTest(SiteTest):
    def test_set_today(self):
        for day in (0, 1, 998, 999):
            self.assertIsNone(self.site.set_today(day))
            self.assertEqual(self.site.today(), day)
        self.site.set_today(day=4)
        self.assertEqual(self.site.today(), 4)

    def test_no_day(self):
        for thing in (-1, 1000, True, False, None, "5", "", [5], (5,), 10 ** 30, -5, [], ()):
            self.refused(BadNumber, {"number": thing}, self.site.set_today, thing)

    def test_set_most(self):
        for many in range(1, 10):
            self.assertIsNone(self.site.set_most(many))
            self.assertEqual(self.site.most(), many)
        self.site.set_most(many=4)
        self.assertEqual(self.site.most(), 4)

    def test_no_such_number(self):
        for thing in (0, 10, -1, True, False, None, "5", [5], (5,), 10 ** 30, [], ()):
            self.refused(BadNumber, {"number": thing}, self.site.set_most, thing)


class AsksTest(SiteTest):
    def test_source(self):
        self.assertEqual(self.site.source("a"), SOURCE)
        self.assertEqual(self.site.source(path="b")[0], "B")
        for thing in NO_PATHS + ("c", "a/b", "x"):
            self.refused(NoPath, {"path": thing}, self.site.source, thing)

    def test_template(self):
        self.assertEqual(self.site.template("page"), TEMPLATE)
        self.assertEqual(self.site.template(name="page"), TEMPLATE)
        for thing in NO_NAMES + ("foot", "a"):
            self.refused(NoName, {"name": thing}, self.site.template, thing)

    def test_paths_and_names_rise(self):
        site = Site()
        for path in ("b", "a/c", "a", "b/a/a", "aa", "a/b/z"):
            site.put(path, SOURCE)
        for name in ("b", "a", "ab", "z", "aa"):
            site.hang(name, EMPTY)
        self.assertEqual(site.paths(), ["a", "a/b/z", "a/c", "aa", "b", "b/a/a"])
        self.assertEqual(site.names(), ["a", "aa", "ab", "b", "z"])

    def test_len(self):
        self.assertEqual(len(self.site), 2)
        self.site.drop("a")
        self.assertEqual(len(self.site), 1)

    def test_repr(self):
        self.assertEqual(repr(self.site), "Site(2 sources, 1 templates, day 5)")
        self.site.drop("a")
        self.site.unhang("page")
        self.site.set_today(999)
        self.assertEqual(repr(self.site), "Site(1 sources, 0 templates, day 999)")

    def test_told_anew(self):
        for ask in (
            self.site.paths, self.site.names, self.site.pages, self.site.tags, lambda: self.site.pages_of("a"),
            lambda: self.site.pages_of("none"),
        ):
            was = ask()
            told = ask()
            self.assertIsNot(told, was)
            told.append("z")
            self.assertEqual(ask(), was)


class KeptTest(unittest.TestCase):
    """An error keeps what was handed in so that a change of it isn't seen."""

    def test_errors(self):
        site = Site()
        site.put("a", SOURCE)
        for error, field, deed, rest in (
            (BadPath, "path", site.put, (SOURCE,)), (NoPath, "path", site.drop, ()), (NoPath, "path", site.move, ("c",)),
            (BadName, "name", site.hang, (EMPTY,)), (NoName, "name", site.unhang, ()),
            (BadNumber, "number", site.set_today, ()), (BadNumber, "number", site.set_most, ()),
            (NoPath, "path", site.source, ()), (NoName, "name", site.template, ()),
            (BadPath, "path", lambda thing: site.move("a", thing), ()),
        ):
            inner = [1]
            thing = [(inner,)]
            caught = check_refused(self, error, {field: [([1],)]}, deed, thing, *rest)
            inner.append(2)
            thing.append(3)
            self.assertEqual(getattr(caught, field), [([1],)])
            getattr(caught, field).clear()
            self.assertEqual(thing, [([1, 2],), 3])


class EqualTest(unittest.TestCase):
    def full(self):
        site = site_with(a=SOURCE, b=source_of("B"))
        site.hang("page", TEMPLATE)
        return site

    def test_the_same_of_all(self):
        self.assertTrue(Site() == Site())
        self.assertFalse(Site() != Site())
        self.assertTrue(self.full() == self.full())

    def test_in_whatever_order_it_came(self):
        one, other = Site(), Site()
        for path in "abc":
            one.put(path, SOURCE)
            one.hang(path, EMPTY)
        for path in "cab":
            other.put(path, SOURCE)
            other.hang(path, EMPTY)
        self.assertTrue(one == other)
        self.assertEqual(one.pages(), other.pages())

    def test_each_thing_another(self):
        for deed, handed in (
            ("put", ("a", source_of("A"))), ("put", ("c", SOURCE)), ("drop", ("a",)), ("move", ("a", "c")),
            ("hang", ("page", EMPTY)), ("hang", ("foot", TEMPLATE)), ("unhang", ("page",)), ("set_today", (6,)),
            ("set_most", (5,)),
        ):
            site = self.full()
            getattr(site, deed)(*handed)
            self.assertFalse(site == self.full(), deed)
            self.assertTrue(site != self.full(), deed)

    def test_other_things(self):
        for thing in OTHER_THINGS + (object(), Site, {}):
            self.assertFalse(Site() == thing)
            self.assertTrue(Site() != thing)
            self.assertFalse(thing == Site())

    def test_like(self):
        site = self.full()
        other = site.like()
        self.assertIsInstance(other, Site)
        self.assertIsNot(other, site)
        self.assertTrue(other == site)
        self.assertEqual(state_of(other), state_of(site))

    def test_a_change_of_one_of_two(self):
        for deed, handed in (
            ("put", ("a", source_of("A"))), ("put", ("c", SOURCE)), ("drop", ("a",)), ("move", ("a", "c")),
            ("hang", ("page", EMPTY)), ("hang", ("foot", TEMPLATE)), ("unhang", ("page",)), ("set_today", (6,)),
            ("set_most", (5,)),
        ):
            for changed in (0, 1):
                site = self.full()
                two = (site, site.like())
                getattr(two[changed], deed)(*handed)
                self.assertEqual(state_of(two[1 - changed]), state_of(self.full()), deed)
                self.assertNotEqual(state_of(two[changed]), state_of(self.full()), deed)
                self.assertFalse(two[0] == two[1], deed)


class PagesTest(unittest.TestCase):
    def test_drafts_and_days_above_today(self):
        site = site_with(
            a=source_of("A", day=5), b=source_of("B", day=6), c=source_of("C", day=4, draft=True), d=source_of("D"),
        )
        self.assertEqual(site.pages(), ["a", "d"])
        site.set_today(6)
        self.assertEqual(site.pages(), ["b", "a", "d"])
        site.set_today(0)
        self.assertEqual(site.pages(), ["d"])

    def test_like_days(self):
        site = Site(today=9)
        for path, day in (("b", 3), ("a/b", 3), ("a", 3), ("aa", 3), ("z", 9), ("c", 0), ("bb", 0), ("y", 9)):
            site.put(path, source_of("T", day=day))
        self.assertEqual(site.pages(), ["y", "z", "a", "a/b", "aa", "b", "bb", "c"])

    def test_tags(self):
        site = site_with(
            a=source_of("A", tags=("x", "y")), b=source_of("B", day=5, tags=("x", "c")),
            c=source_of("C", draft=True, tags=("d",)), d=source_of("D", day=6, tags=("e",)), e=source_of("E"),
        )
        self.assertEqual(site.tags(), ["c", "x", "y"])
        self.assertEqual(site.pages_of("x"), ["b", "a"])
        self.assertEqual(site.pages_of(tag="y"), ["a"])
        for tag in ("d", "e", "z"):
            self.assertEqual(site.pages_of(tag), [])
        site.set_today(6)
        self.assertEqual(site.tags(), ["c", "e", "x", "y"])

    def test_lead_to_itself(self):
        site = site_with(a=source_of("A"), b=source_of("B", draft=True), c=source_of("C", day=6))
        self.assertEqual(site.lead("a"), "a")
        for path in ("b", "c", "d", "a/b"):
            self.assertIsNone(site.lead(path))
        self.assertEqual(site.lead(path="a"), "a")

    def test_lead_by_olds_of_several_pages(self):
        site = site_with(
            a=source_of("A", day=1, olds=("old",)), b=source_of("B", day=2, olds=("old", "older")),
            c=source_of("C", day=2, olds=("old",)), d=source_of("D", day=6, olds=("old", "oldest")),
            e=source_of("E", day=3, draft=True, olds=("old", "draft")),
        )
        self.assertEqual(site.lead("old"), "b")
        self.assertEqual(site.lead("older"), "b")
        self.assertIsNone(site.lead("oldest"))
        self.assertIsNone(site.lead("draft"))
        site.set_today(6)
        self.assertEqual(site.lead("old"), "d")
        self.assertEqual(site.lead("oldest"), "d")

    def test_a_page_at_an_old_name(self):
        site = site_with(a=source_of("A", day=1), b=source_of("B", day=2, olds=("a",)))
        self.assertEqual(site.lead("a"), "a")
        site.put("a", source_of("A", draft=True))
        self.assertEqual(site.lead("a"), "b")
        site.put("a", source_of("A", day=6))
        self.assertEqual(site.lead("a"), "b")
        site.set_today(6)
        self.assertEqual(site.lead("a"), "a")

    def test_in_one_step(self):
        site = site_with(a=source_of("A"))
        for path, to in (("a", "b"), ("b", "c/d"), ("c/d", "e")):
            site.move(path, to)
        for path in ("a", "b", "c/d", "e"):
            self.assertEqual(site.lead(path), "e")
        # The olds of a page are told of that page alone, so a lead goes no second step.
        site = site_with(a=source_of("A", olds=("b",)), c=source_of("C", olds=("a",)))
        site.drop("a")
        self.assertIsNone(site.lead("b"))
        self.assertEqual(site.lead("a"), "c")


class AgainTest(unittest.TestCase):
    """Many rows of deeds on a Site and on plain dicts beside it."""

    def compared(self, site, sources, day):
        pages = [path for path in sources if not sources[path][2] and sources[path][1] <= day]
        pages.sort()
        pages.sort(key=lambda path: sources[path][1], reverse=True)
        self.assertEqual(site.paths(), sorted(sources))
        self.assertEqual(site.pages(), pages)
        self.assertEqual(site.tags(), sorted({tag for path in pages for tag in sources[path][3]}))
        for tag in "tuv":
            self.assertEqual(site.pages_of(tag), [path for path in pages if tag in sources[path][3]])
        for path in "abcdefghijklmno":
            leads = [path] * (path in pages) + [page for page in pages if path in sources[page][5]] + [None]
            self.assertEqual(site.lead(path), leads[0])

    def test_deeds(self):
        chance = random.Random(10)
        for time in range(60):
            site, sources, day = Site(today=3), {}, 3
            for step in range(40):
                path, to = chance.choice("abcdefghijklmno"), chance.choice("abcdefghijklmno")
                word = chance.choice(("put", "put", "drop", "move", "move", "day"))
                if word == "put":
                    source = source_of(
                        "T", day=chance.randrange(6), draft=chance.randrange(5) == 0,
                        tags=tuple(chance.sample("tuv", chance.randrange(4))),
                        olds=tuple(chance.sample("abcdefghijkl", chance.randrange(7))),
                    )
                    if path in sources or len(sources) < 12:
                        site.put(path, source)
                        sources[path] = source
                    else:
                        check_refused(self, TooMany, {"many": 12}, site.put, path, source)
                elif word == "day":
                    day = chance.randrange(6)
                    site.set_today(day)
                elif path not in sources:
                    check_refused(self, NoPath, {"path": path}, *((site.drop, path), (site.move, path, to))[word == "move"])
                elif word == "drop":
                    site.drop(path)
                    del sources[path]
                elif to in sources:
                    check_refused(self, Taken, {"path": to}, site.move, path, to)
                else:
                    olds = {path, *sources[path][5]} - {to}
                    if len(olds) > 6:
                        check_refused(self, TooMany, {"many": 6}, site.move, path, to)
                    else:
                        site.move(path, to)
                        source = sources.pop(path)
                        sources[to] = source[:5] + (tuple(sorted(olds)),) + source[6:]
                        self.assertEqual(site.source(to), sources[to])
                self.compared(site, sources, day)


if __name__ == "__main__":
    unittest.main()

import random
import re
import unittest

from checks import chance_deed, check_refused, site_of, state_of
from pagemaker.errors import Fault, NoPage
from pagemaker.facts import fact
from pagemaker.filling import against, page_text, reads_of
from pagemaker.marks import blocks_of, marked, targets_of
from pagemaker.sites import Site
from pagemaker.sources import source_of
from pagemaker.templatetext import template_text
from pagemaker.words import escaped
from things import OTHER_THINGS

ROWS = ("# Go <on>", "see [B & b](b), *now*", "[old](bold) [gone](z)")
SOURCES = {
    "a": source_of('A "&" <a>', day=7, tags=("t", "u"), rows=ROWS),
    "b": source_of("B", day=8, tags=("t",), olds=("bold", "d"), rows=("- one", "- [a](a)")),
    "c/c": source_of("C", tags=("u",)),
    "d": source_of("D", day=2, draft=True, tags=("t",)),
    "e": source_of("E", day=10, tags=("t",)),
}


def text_of(path="a", **templates):
    """The text of that page by these templates, beside the sources above."""
    return page_text(site_of(templates, SOURCES), path)


class FieldsTest(unittest.TestCase):
    def test_title_is_escaped(self):
        self.assertEqual(text_of(page="<{title}>"), "<A &quot;&amp;&quot; &lt;a&gt;>")

    def test_path(self):
        self.assertEqual(text_of(page="{path}"), "a")
        self.assertEqual(text_of("c/c", page="{path}"), "c/c")

    def test_day(self):
        self.assertEqual(text_of(page="{day}"), "7")
        self.assertEqual(text_of("c/c", page="{day}"), "0")

    def test_tags(self):
        self.assertEqual(text_of(page="{tags}"), "t, u")
        self.assertEqual(text_of("b", page="{tags}"), "t")
        self.assertEqual(page_text(site_of({"page": "({tags})"}, {"f": source_of("F")}), "f"), "()")

    def test_body(self):
        self.assertEqual(
            text_of(page="{body}"),
            '<h1>Go &lt;on&gt;</h1>\n<p>see <a href="/b">B &amp; b</a>, <b>now</b>\n'
            '<a href="/b">old</a> <s>gone</s></p>',
        )
        self.assertEqual(text_of("b", page="{body}"), '<ul>\n<li>one</li>\n<li><a href="/a">a</a></li>\n</ul>')
        self.assertEqual(text_of("c/c", page="({body})"), "()")

    def test_links_to_drafts_and_days_that_come(self):
        rows = ("[d](d)", "[e](e)", "[a](a) [a](a)")
        site = site_of({"page": "{body}"}, {**SOURCES, "f": source_of("F", rows=rows)})
        self.assertEqual(
            page_text(site, "f"),
            '<p><a href="/b">d</a>\n<s>e</s>\n<a href="/a">a</a> <a href="/a">a</a></p>',
        )
        site.set_today(10)
        self.assertIn('<a href="/e">e</a>', page_text(site, "f"))

    def test_inner_of_under_itself(self):
        self.assertEqual(text_of(page="({inner})"), "()")

    def test_plain_ones_stay_as_they_are(self):
        self.assertEqual(text_of(page="<&>\n\"\n"), "<&>\n\"\n")
        self.assertEqual(text_of(page=""), "")

    def test_several_one_behind_the_other(self):
        self.assertEqual(text_of("b", page="{title}{title}-{day}\n{path}"), "BB-8\nb")


class PiecesTest(unittest.TestCase):
    def test_use(self):
        self.assertEqual(text_of(page="({use one})({use one})", one="{path}{inner}"), "(a)(a)")

    def test_pages(self):
        self.assertEqual(text_of(page="{pages t one}", one="{path} {day};"), "b 8;a 7;")
        self.assertEqual(text_of("c/c", page="{path}:{pages u one}", one="[{title}{inner}]"),
                         "c/c:[A &quot;&amp;&quot; &lt;a&gt;][C]")
        self.assertEqual(text_of(page="({pages none one})", one="x"), "()")

    def test_to(self):
        self.assertEqual(text_of(page="{to b}"), "/b")
        self.assertEqual(text_of(page="{to bold} {to c/c} {to a}"), "/b /c/c /a")
        self.assertEqual(text_of(page="{to z} {to e} {to d}"), "nowhere nowhere /b")

    def test_when(self):
        self.assertEqual(text_of(page="{when t}yes{title}{done}"), "yesA &quot;&amp;&quot; &lt;a&gt;")
        self.assertEqual(text_of(page="({when z}no{done})"), "()")
        self.assertEqual(text_of("b", page="({when t}1{when u}2{done}3{done}{when u}4{done})"), "(13)")
        self.assertEqual(text_of(page="{when t}{when u}{when t}x{done}{done}{done}"), "x")

    def test_when_of_the_page_for_which_it_is_filled(self):
        self.assertEqual(text_of("c/c", page="{pages u one}", one="{path}{when t}!{done} "), "a! c/c ")

    def test_use_within_pages(self):
        self.assertEqual(text_of("c/c", page="{pages t one}", one="<{use two}>", two="{path}"), "<b><a>")


class HoldersTest(unittest.TestCase):
    def test_one(self):
        self.assertEqual(text_of(page="in one\n{path}", one="<{inner}>"), "<a>")

    def test_three_above_one_another(self):
        self.assertEqual(
            text_of(page="in one\n{path}", one="in two\n1{inner}1", two="in three\n2{inner}2", three="3{inner}3{day}"),
            "321a1237",
        )

    def test_one_that_has_no_inner(self):
        self.assertEqual(text_of(page="in one\n{path}", one="x"), "x")
        self.assertEqual(text_of(page="in one\n{path}", one="in two\nx", two="({inner})"), "(x)")

    def test_inner_within_when(self):
        self.assertEqual(text_of(page="in one\n{path}", one="({when t}{inner}{done})"), "(a)")
        self.assertEqual(text_of("c/c", page="in one\n{path}", one="({when t}{inner}{done})"), "()")

    def test_what_is_used_has_its_holder_too(self):
        self.assertEqual(text_of(page="-{use one}-", one="in two\n{path}", two="[{inner}]"), "-[a]-")
        self.assertEqual(text_of(page="in two\n{use one}", one="in two\n{path}", two="[{inner}]"), "[[a]]")

    def test_what_is_listed_has_its_holder_too(self):
        self.assertEqual(
            text_of("c/c", page="{pages t one}", one="in two\n{path}", two="[{inner}{day}]"), "[b8][a7]")

    def test_inner_is_empty_for_what_is_used_and_listed(self):
        self.assertEqual(
            text_of(page="in one\n{path}", one="{use two}{pages t two}{inner}", two="({inner})"), "()()()a")

    def test_of_another_under(self):
        site = site_of({"page": "p", "wide": "w{title}"}, {"a": source_of("A", under="wide"), "b": source_of("B")})
        self.assertEqual([page_text(site, "a"), page_text(site, "b")], ["wA", "p"])


class RefusedTest(unittest.TestCase):
    def test_no_page(self):
        site = site_of({"page": "x"}, SOURCES)
        was = state_of(site)
        for thing in OTHER_THINGS + ("d", "e", "z", "bold", "tag", "/a", "a/b/c/d", ["a"], ("a",)):
            for asked in (page_text, reads_of):
                check_refused(self, NoPage, {"path": thing}, asked, site, thing)
                check_refused(self, NoPage, {"path": thing}, asked, path=thing, site=site)
        self.assertEqual(state_of(site), was)

    def test_no_page_ahead_of_a_fault(self):
        check_refused(self, NoPage, {"path": "d"}, page_text, site_of({}, SOURCES), "d")

    def test_kept_so_that_no_change_is_seen(self):
        for asked in (page_text, reads_of):
            thing = ["a"]
            caught = check_refused(self, NoPage, {"path": ["a"]}, asked, Site(), thing)
            thing.append("b")
            self.assertEqual(caught.path, ["a"])

    def test_faults(self):
        for word, what, templates in (
            ("none", ["page"], {}),
            ("none", ["page", "z"], {"page": "{when z}{use z}{done}"}),
            ("ring", ["page", "one", "page"], {"page": "in one\n", "one": "{use page}"}),
            ("deep", ["page", "one"], {"page": "{pages z one}", "one": "{body}"}),
            ("much", 25, {"page": "{use one}" * 12, "one": "{use two}", "two": ""}),
        ):
            site = site_of(templates, SOURCES)
            was = state_of(site)
            caught = check_refused(self, Fault, {"word": word, "what": what}, page_text, site, "a")
            self.assertEqual((caught.word, caught.what), against(site, "page"))
            check_refused(self, Fault, {"word": word, "what": what}, page_text, path="a", site=site)
            if word != "much":
                caught.what.clear()
                self.assertEqual(against(site, "page"), (word, what))
            self.assertEqual(state_of(site), was)

    def test_a_fault_is_that_page_s_alone(self):
        site = site_of({"page": "x"}, {**SOURCES, "f": source_of("F", under="wide")})
        check_refused(self, Fault, {"word": "none", "what": ["wide"]}, page_text, site, "f")
        self.assertEqual(page_text(site, "a"), "x")


class ReadsTest(unittest.TestCase):
    def keys(self, path="a", **templates):
        """The keys of what a page reads; the values are compared with the facts, kind by kind."""
        site = site_of(templates, SOURCES)
        reads = reads_of(site, path)
        self.assertEqual(repr(reads), repr([(key, fact(site, key)) for key, value in reads]))
        self.assertEqual(repr(reads_of(path=path, site=site)), repr(reads))
        self.assertEqual(len({key for key, value in reads}), len(reads))
        return [key for key, value in reads]

    def behind(self, path="a", **templates):
        """Those behind under and the templates."""
        keys = self.keys(path, **templates)
        many = 1 + len([key for key in keys if key[0] == "template"])
        self.assertEqual([key[0] for key in keys[:many]], ["under"] + ["template"] * (many - 1))
        return keys[many:]

    def test_pairs(self):
        site = site_of({"page": "{title}{when t}{day}{done}"}, SOURCES)
        self.assertEqual(
            repr(reads_of(site, "b")),
            repr([
                (("under", "b"), "page"), (("template", "page"), site.template("page")), (("title", "b"), "B"),
                (("tags", "b"), ("t",)), (("day", "b"), 8),
            ]),
        )

    def test_under_and_its_template(self):
        self.assertEqual(self.keys(page="x"), [("under", "a"), ("template", "page")])

    def test_fields(self):
        self.assertEqual(self.behind(page="{title}"), [("title", "a")])
        self.assertEqual(self.behind(page="{day}"), [("day", "a")])
        self.assertEqual(self.behind(page="{tags}"), [("tags", "a")])
        self.assertEqual(self.behind(page="{path}{inner}"), [])
        self.assertEqual(
            self.behind(page="{tags}{day}{title}{path}"), [("tags", "a"), ("day", "a"), ("title", "a")])

    def test_body(self):
        self.assertEqual(self.behind(page="{body}"), [("rows", "a"), ("lead", "b"), ("lead", "bold"), ("lead", "z")])
        self.assertEqual(self.behind("c/c", page="{body}"), [("rows", "c/c")])

    def test_to(self):
        self.assertEqual(self.behind(page="{to z}{to b}{to z}"), [("lead", "z"), ("lead", "b")])
        self.assertEqual(
            self.behind(page="{to bold}{body}"), [("lead", "bold"), ("rows", "a"), ("lead", "b"), ("lead", "z")])

    def test_when(self):
        self.assertEqual(self.behind(page="{when t}{day}{done}"), [("tags", "a"), ("day", "a")])
        self.assertEqual(self.behind(page="{when z}{day}{to b}{done}{title}"), [("tags", "a"), ("title", "a")])
        self.assertEqual(self.behind(page="{title}{when z}{done}"), [("title", "a"), ("tags", "a")])

    def test_pages(self):
        self.assertEqual(
            self.behind("c/c", page="{pages t one}", one="{title}{day}"),
            [("tag", "t"), ("title", "b"), ("day", "b"), ("title", "a"), ("day", "a")],
        )
        self.assertEqual(self.behind(page="{pages none one}", one="{title}"), [("tag", "none")])
        self.assertEqual(self.behind("c/c", page="{pages t one}", one="{path}"), [("tag", "t")])

    def test_use_where_it_stands(self):
        self.assertEqual(
            self.behind(page="{tags}{use one}{title}", one="{day}"), [("tags", "a"), ("day", "a"), ("title", "a")])

    def test_a_holder_behind_what_it_holds(self):
        self.assertEqual(
            self.behind(page="in one\n{title}", one="{day}{inner}{tags}"),
            [("title", "a"), ("day", "a"), ("tags", "a")],
        )
        # What is used is done with its holder before what stands behind it.
        self.assertEqual(
            self.behind(page="in three\n{use one}{title}", one="in two\n{day}", two="{tags}", three="{to b}"),
            [("day", "a"), ("tags", "a"), ("title", "a"), ("lead", "b")],
        )

    def test_keys_read_twice(self):
        self.assertEqual(
            self.behind(page="{title}{title}{pages t one}{title}{pages t one}", one="{title}{to b}"),
            [("title", "a"), ("tag", "t"), ("title", "b"), ("lead", "b")],
        )

    def test_templates_round_by_round(self):
        self.assertEqual(
            self.keys(
                page="in h\n{use d}{pages none b}{use d}", h="{use c}", d="in e\n{use h}", b="{use a}{use c}", e="",
                c="", a="",
            ),
            [("under", "a")] + [("template", name) for name in ("page", "h", "d", "b", "c", "e", "a")]
            + [("tag", "none")],
        )

    def test_templates_within_when(self):
        self.assertEqual(
            self.keys(page="{when z}{use b}{done}{use a}", a="", b=""),
            [("under", "a"), ("template", "page"), ("template", "b"), ("template", "a"), ("tags", "a")],
        )

    def test_of_a_page_at_fault(self):
        self.assertEqual(self.keys(), [("under", "a"), ("template", "page")])
        self.assertEqual(
            self.keys(page="{title}{use b}{use c}", b="{use d}", c="in page\n{use e}", d="", e=""),
            [("under", "a")] + [("template", name) for name in ("page", "b", "c", "d", "e")],
        )
        self.assertEqual(
            self.keys(page="{use z}{use b}", b="in y\n{use page}"),
            [("under", "a")] + [("template", name) for name in ("page", "z", "b", "y")],
        )
        self.assertEqual(
            self.keys(page="{pages t b}", b="{body}"), [("under", "a"), ("template", "page"), ("template", "b")])
        self.assertEqual(
            self.keys(page="{use b}" * 12 + "", b="{use c}{title}", c=""),
            [("under", "a")] + [("template", name) for name in ("page", "b", "c")],
        )

    def test_the_value_of_what_is_not_there(self):
        site = site_of({"page": "{use z}"}, SOURCES)
        self.assertEqual(reads_of(site, "a")[-1], (("template", "z"), None))
        site = site_of({"page": "{to z}"}, SOURCES)
        self.assertEqual(reads_of(site, "a")[-1], (("lead", "z"), None))

    def test_told_anew(self):
        site = site_of({"page": "{title}"}, SOURCES)
        was = reads_of(site, "a")
        reads_of(site, "a").clear()
        self.assertEqual(reads_of(site, "a"), was)


HOLE = re.compile(r"\{([^}]*)\}|([^{]+)")


def filled_again(site, name, path, inner):
    """A template filled by its text, hole by hole, and not by its pieces; skipped counts whens that aren't so."""
    head, rest = template_text(site.template(name)).split("\n", 1)
    source, told, skipped, opened = site.source(path), "", 0, 0
    for hole, plain in HOLE.findall(rest):
        words = hole.split(" ")
        if words[0] == "when":
            if skipped or words[1] not in source[3]:
                skipped += 1
            else:
                opened += 1
        elif words[0] == "done":
            if skipped:
                skipped -= 1
            else:
                opened -= 1
        elif not skipped:
            told += plain or word_again(site, words, path, inner)
    assert opened == skipped == 0
    return told if head == "in -" else filled_again(site, head[3:], path, told)


def word_again(site, words, path, inner):
    """What a hole comes to."""
    title, day, draft, tags, under, olds, rows = site.source(path)
    blocks = blocks_of(rows)
    leads = {target: site.lead(target) for target in targets_of(blocks)}
    addresses = [(target, led and "/" + led) for target, led in leads.items()]
    plain = {
        "title": escaped(title), "path": path, "day": "%d" % day, "tags": ", ".join(tags), "inner": inner,
        "body": marked(blocks, addresses),
    }
    if words[0] == "use":
        return filled_again(site, words[1], path, "")
    if words[0] == "pages":
        return "".join([filled_again(site, words[2], page, "") for page in site.pages_of(words[1])])
    if words[0] == "to":
        led = site.lead(words[1])
        return "nowhere" if led is None else "/" + led
    return plain[words[0]]


class AgainTest(unittest.TestCase):
    def test_many_sites(self):
        chance = random.Random(13)
        names, tags, paths = ("page", "a", "b", "c"), "tuv", ("a", "b", "c/d", "e", "f")
        filled = faults = 0
        for time in range(150):
            site = Site(today=2)
            for step in range(40):
                chance_deed(chance, site, names, tags, paths)
                for path in site.pages():
                    under = site.source(path)[4]
                    if against(site, under) is None:
                        self.assertEqual(page_text(site, path), filled_again(site, under, path, ""))
                        filled += 1
                    else:
                        word, what = against(site, under)
                        check_refused(self, Fault, {"word": word, "what": what}, page_text, site, path)
                        faults += 1
        self.assertGreater(filled, 1000)
        self.assertGreater(faults, 1000)


if __name__ == "__main__":
    unittest.main()

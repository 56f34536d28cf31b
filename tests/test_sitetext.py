import random
import re
import unittest

from checks import chance_deed, chance_layers, check_refused, site_of, state_of
from pagemaker.errors import BadRow, BadText
from pagemaker.sites import Site
from pagemaker.sitetext import site_in, site_text
from pagemaker.sources import source_of
from pagemaker.sourcetext import source_in, source_text
from pagemaker.templatetext import template_in, template_text

TEXT = """today 7
most 3
source a 6
title A b
day 4
tags t u
under list

# row
source a/b 1
title AB
source c 5
title C
draft
old a/c d

- [x](a)
template list 3
in page
<{title}>
{pages t page}
template page 2
in -
"""
SITE = site_of(
    {"page": "", "list": "in page\n<{title}>\n{pages t page}"},
    {"c": source_of("C", draft=True, olds=("a/c", "d"), rows=("- [x](a)",)), "a/b": source_of("AB"),
     "a": source_of("A b", day=4, tags=("t", "u"), under="list", rows=("# row",))},
    today=7, most=3,
)


def source_rows(path):
    """The rows of a source at the path, one of title T."""
    return [f"source {path} 1", "title T"]


def template_rows(name):
    """The rows of a template of that name, one of no pieces."""
    return [f"template {name} 2", "in -", ""]


class SiteTextTest(unittest.TestCase):
    def test_text(self):
        self.assertEqual(site_text(SITE), TEXT)
        self.assertEqual(site_text(site=SITE), TEXT)

    def test_bare(self):
        self.assertEqual(site_text(Site()), "today 0\nmost 4")
        self.assertEqual(site_text(Site(today=999, most=9)), "today 999\nmost 9")

    def test_there_and_back(self):
        for site in (SITE, Site(), Site(today=999, most=1)):
            was = state_of(site)
            told = site_in(site_text(site))
            self.assertIsInstance(told, Site)
            self.assertEqual((state_of(told), told), (was, site))
            self.assertEqual(state_of(site), was)
        self.assertEqual(site_in(text=TEXT), SITE)

    def test_there_and_back_by_chance(self):
        chance = random.Random(23)
        names, tags, paths = ("page", "a", "b", "tag"), "tuv", ("a", "b", "c/d", "e", "f/g/h", "ab")
        for time in range(150):
            site = chance_layers(chance, names, tags, paths)
            for step in range(chance.randrange(12)):
                chance_deed(chance, site, names, tags, paths)
            text = site_text(site)
            self.assertEqual(state_of(site_in(text)), state_of(site))
            self.assertEqual(site_text(site_in(text)), text)
            rows = text.split("\n")
            self.assertEqual(rows[:2], [f"today {site.today()}", f"most {site.most()}"])
            at = 2
            for word, called, told in (
                [("source", path, source_text(site.source(path))) for path in sorted(site.paths())]
                + [("template", name, template_text(site.template(name))) for name in sorted(site.names())]
            ):
                many = len(told.split("\n"))
                self.assertEqual(rows[at], f"{word} {called} {many}")
                self.assertEqual("\n".join(rows[at + 1:at + 1 + many]), told)
                at += 1 + many
            self.assertEqual(at, len(rows))

    def test_all_that_a_site_can_have(self):
        site = Site(today=999, most=9)
        for path in "abcdefghijkl":
            site.put(path * 3, source_of("T" * 40, day=999, draft=True, tags=("a", "b", "c"), under="z", olds=("y",),
                                         rows=("x" * 50, "", "title A", "source a 1", "", "today 3", "", "")))
        for name in "abcdefgh":
            site.hang(name, ("page", (("plain", "\n" * 20), ("field", "title"), ("plain", "template z 2\nin -\n"))))
        text = site_text(site)
        self.assertLess(len(text.split("\n")), 400)
        self.assertEqual(state_of(site_in(text)), state_of(site))

    def test_apart(self):
        one, other = site_in(TEXT), site_in(TEXT)
        one.drop("a")
        self.assertEqual(other, SITE)


class BadRowTest(unittest.TestCase):
    def refused(self, row, *rows):
        """Handed rows; both the number of the first wrong one, and by its argument's name."""
        text = "\n".join(rows)
        check_refused(self, BadRow, {"row": row}, site_in, text)
        check_refused(self, BadRow, {"row": row}, site_in, text=text)

    def test_today(self):
        for row in (
            "", " ", "today", "today ", "today  1", "today 1 ", " today 1", "today 01", "today 00", "today -1", "today +1",
            "today 1000", "today 10000", "today " + "9" * 5000, "today x", "today 1 2", "Today 1", "most 4", "today\t1",
            "source a 1", "today 1.0", "today 1_0",
        ):
            self.refused(0, row)
            self.refused(0, row, "most 4")
            self.refused(0, row, "most x", "source")
        self.refused(0, "", "today 1", "most 4")

    def test_most(self):
        for row in (
            "", "most", "most ", "most 0", "most 10", "most 04", "most -1", "most 4 ", " most 4", "most  4", "most x",
            "most 4 4", "today 1", "source a 1", "most " + "9" * 5000,
        ):
            self.refused(1, "today 1", row)
            self.refused(1, "today 1", row, *source_rows("a"))
        for number in range(1, 10):
            self.assertEqual(site_in(f"today 1\nmost {number}").most(), number)

    def test_awaited(self):
        self.refused(0, "")
        self.refused(1, "today 5")
        self.refused(1, "today 5", "")

    def test_rows_that_are_neither(self):
        for row in (
            "", " ", "x", "source", "template", "source ", "source a", "source a ", "template page", "source a 1 ",
            "source  a 1", " source a 1", "source a  1", "source a 1 1", "Source a 1", "sources a 1", "today 1", "most 4",
            "title T", "source a x", "source a 01", "source a -1", "source a +1", "source a 1.0", "page page 2",
            "template a", "source A 1", "source tag 1", "source tag/a 1", "source a/b/c/d 1", "source abcdefghi 1",
            "source /a 1", "source a/ 1", "source - 1", "template A 1", "template a/b 1", "template abcdefghi 1",
            "template - 1", "source 1",
        ):
            self.refused(2, "today 1", "most 4", row, "title T")
            self.refused(2, "today 1", "most 4", row)
            self.refused(2, "today 1", "most 4", row, "in -", "")
            self.refused(4, "today 1", "most 4", *source_rows("a"), row, *source_rows("b"))

    def test_a_row_too_many(self):
        rows = TEXT.split("\n")
        self.refused(len(rows), *rows, "")
        self.refused(len(rows), *rows, " ")
        self.refused(2, "today 1", "most 4", "")

    def test_sources_ahead(self):
        self.refused(5, "today 1", "most 4", *template_rows("a"), *source_rows("b"))
        self.refused(7, "today 1", "most 4", *source_rows("a"), *template_rows("a"), *source_rows("b"))

    def test_paths_and_names_rise(self):
        for one, other in (("b", "a"), ("a", "a"), ("a/b", "a"), ("b", "aa"), ("a/b", "a/a")):
            self.refused(4, "today 1", "most 4", *source_rows(one), *source_rows(other))
            self.assertEqual(len(site_in("\n".join(["today 1", "most 4", *source_rows("a"), *source_rows("b")]))), 2)
        for one, other in (("b", "a"), ("a", "a"), ("b", "aa")):
            self.refused(5, "today 1", "most 4", *template_rows(one), *template_rows(other))
        self.refused(6, "today 1", "most 4", *source_rows("a"), *source_rows("c"), *source_rows("b"), *source_rows("d"))

    def test_a_template_may_be_called_as_a_source(self):
        text = "\n".join(["today 1", "most 4", *source_rows("b"), *template_rows("a"), *template_rows("b")])
        self.assertEqual((site_in(text).paths(), site_in(text).names()), (["b"], ["a", "b"]))

    def test_how_many(self):
        rows = [row for path in "abcdefghijkl" for row in source_rows(path)]
        hung = [row for name in "abcdefgh" for row in template_rows(name)]
        site = site_in("\n".join(["today 1", "most 4"] + rows + hung))
        self.assertEqual((len(site), len(site.names())), (12, 8))
        self.refused(26, "today 1", "most 4", *rows, *source_rows("m"))
        self.refused(26, "today 1", "most 4", *rows, *source_rows("m"), *hung)
        self.refused(26, "today 1", "most 4", *hung, *template_rows("i"))
        self.refused(50, "today 1", "most 4", *rows, *hung, *template_rows("i"))

    def test_rows_that_are_no_such_text(self):
        for rows in (
            ["source a 1", "title"], ["source a 1", ""], ["source a 1", "in -"], ["source a 2", "title T", "day 0"],
            ["source a 2", "title T", ""], ["source a 2", "title T", "source b 1"], ["source a 0"],
            ["source a 0", "title T"], ["source a 1", "title T "], ["template a 1", "in -"], ["template a 1", "in a"],
            ["template a 2", "in A", ""], ["template a 2", "in -", "{"], ["template a 2", "in -", "{when t}"],
            ["template a 2", "in -", "{inner}{inner}"], ["template a 2", "title T", ""], ["template a 0"],
            ["template a 2", "in -", "x" * 61],
        ):
            self.refused(2, "today 1", "most 4", *rows)
            self.refused(2, "today 1", "most 4", *rows, "source")
        self.refused(4, "today 1", "most 4", *source_rows("a"), "template a 2", "in -", "}")

    def test_as_many_as_are_told(self):
        self.refused(4, "today 1", "most 4", "source a 1", "title T", "day 1")
        self.refused(2, "today 1", "most 4", "source a 2", "title T", "source b 1", "title T")
        self.assertEqual(site_in("today 1\nmost 4\ntemplate a 3\nin -\n\n").template("a"), ("", (("plain", "\n"),)))
        self.refused(5, "today 1", "most 4", "template a 2", "in -", "", "")

    def test_rows_that_end_too_soon(self):
        for many in ("2", "3", "20", "10000", "9" * 5000):
            self.refused(2, "today 1", "most 4", f"source a {many}", "title T")
        for many in ("3", "4", "9" * 5000):
            self.refused(2, "today 1", "most 4", f"template a {many}", "in -", "x")
        self.refused(4, "today 1", "most 4", *source_rows("a"), "source b 1")
        self.refused(4, "today 1", "most 4", *source_rows("a"), "template b 1")

    def test_the_first_of_several(self):
        self.refused(0, "today x", "most x", "source x", "x")
        self.refused(1, "today 1", "most x", "source x", "x")
        self.refused(2, "today 1", "most 4", "source a x", "x")
        self.refused(4, "today 1", "most 4", *source_rows("a"), "source c 1", "x", "x", "x")

    def check_other(self, rows):
        """The text of no Site, or of one whose text it is; whether it is one."""
        wrong = first_wrong(rows)
        if wrong is None:
            self.assertEqual(site_text(site_in("\n".join(rows))), "\n".join(rows))
        else:
            self.refused(wrong, *rows)
        return wrong is None

    def test_each_row_of_a_text_left_out_or_twice(self):
        rows = TEXT.split("\n")
        for at in range(len(rows)):
            self.check_other(rows[:at] + rows[at + 1:])
            self.check_other(rows[:at + 1] + rows[at:])
            self.check_other(rows[:at] or [""])

    def test_texts_that_are_somewhat_otherwise(self):
        chance = random.Random(26)
        told = []
        for time in range(1500):
            rows = TEXT.split("\n")
            for step in range(chance.randrange(1, 3)):
                at = chance.choice((0, 1, 2, 9, 11, 17, 21, chance.randrange(len(rows)))) % len(rows)
                row = rows[at]
                place = chance.randrange(len(row) + 1)
                rows[at:at + 1] = chance.choice((
                    [row[:place] + row[place + 1:]], [row[:place] + chance.choice(" 0129abz/{}\n") + row[place:]],
                    [row, chance.choice(rows)], [row.replace("a", "b")], [row.replace("1", "2")], [row[:-1] + "3"],
                ))
            told.append(self.check_other("\n".join(rows).split("\n")))
        self.assertGreater(told.count(True), 100)
        self.assertGreater(told.count(False), 500)


def first_wrong(rows):
    """The row with which a text is refused, told a second time; None where it isn't."""
    if not re.fullmatch(r"today (0|[1-9][0-9]{0,2})", rows[0]):
        return 0
    if len(rows) == 1 or not re.fullmatch("most [1-9]", rows[1]):
        return 1
    at, found = 2, {"source": [], "template": []}
    while at < len(rows):
        written = re.fullmatch(
            r"(?:(source) (?!tag[/ ])([a-z]{1,8}(?:/[a-z]{1,8}){0,2})|(template) ([a-z]{1,8})) ([1-9][0-9]*)", rows[at])
        if written is None:
            return at
        word, called = (part for part in written.groups()[:4] if part is not None)
        many = int(written.group(5))
        found[word].append(called)
        if (
            (word == "source" and found["template"]) or found[word] != sorted(set(found[word]))
            or len(found[word]) > {"source": 12, "template": 8}[word] or len(rows) <= at + many
        ):
            return at
        try:
            (source_in if word == "source" else template_in)("\n".join(rows[at + 1:at + 1 + many]))
        except (BadRow, BadText):
            return at
        at += 1 + many
    return None


if __name__ == "__main__":
    unittest.main()

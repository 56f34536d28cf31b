import random
import unittest

from checks import chance_deed, chance_layers, check_refused, site_of, state_of
from pagemaker.errors import Fault
from pagemaker.filling import against, page_text
from pagemaker.flat import flat_of, made_flat
from pagemaker.made import made, unlike
from pagemaker.marks import blocks_of, marked, targets_of
from pagemaker.sites import Site
from pagemaker.sources import source_of
from pagemaker.templatetext import template_in
from pagemaker.words import escaped

TITLE, BODY, DAY = ("field", "title"), ("field", "body"), ("field", "day")


def plain(text):
    return ("plain", text)


def flat(name="page", **templates):
    """The pieces laid out of that one of these templates."""
    return flat_of(site_of(templates), name)


class FlatTest(unittest.TestCase):
    def laid(self, expected, **templates):
        self.assertEqual(repr(flat(**templates)), repr(expected))

    def test_what_calls_nothing_stays(self):
        self.laid((plain("a"), TITLE, ("field", "path"), DAY, ("field", "tags"), BODY, ("to", "b/c"), plain("z")),
                  page="a{title}{path}{day}{tags}{body}{to b/c}z")
        self.laid((plain("\n"),), page="\n")

    def test_of_no_pieces(self):
        self.laid((), page="")
        self.laid((), page="{inner}")
        self.laid((), page="{use a}{use a}", a="{inner}")
        self.laid((), page="in a\n{title}", a="")

    def test_use(self):
        self.laid((TITLE, DAY, TITLE), page="{title}{use a}{title}", a="{day}")
        self.laid((DAY, DAY), page="{use a}{use a}", a="{day}")
        self.laid((DAY, TITLE), page="{use a}{title}", a="{use b}", b="{use c}", c="{day}")

    def test_use_has_its_holder_and_no_inner(self):
        self.laid((plain("<"), DAY, plain(">")), page="{use a}", a="in b\n{day}{inner}", b="<{inner}>")
        self.laid((plain("<("), TITLE, plain(")>")), page="in b\n{title}{use a}", a="{inner}", b="<({inner})>")

    def test_holders(self):
        self.laid((plain("<"), TITLE, plain(">")), page="in a\n{title}", a="<{inner}>")
        self.laid(
            (plain("321"), TITLE, plain("123"), DAY),
            page="in a\n{title}", a="in b\n1{inner}1", b="in c\n2{inner}2", c="3{inner}3{day}",
        )

    def test_a_holder_without_inner(self):
        self.laid((plain("x"),), page="in a\n{title}", a="x")
        self.laid((plain("(x)"),), page="in a\n{title}", a="in b\nx", b="({inner})")

    def test_inner_within_when(self):
        self.laid((("when", "t", (plain("<"), TITLE, plain(">"))),), page="in a\n{title}", a="{when t}<{inner}>{done}")
        self.laid(
            (("when", "t", (("when", "u", (("when", "t", (TITLE,)), DAY)),)),),
            page="in a\n{when t}{title}{done}{day}", a="{when t}{when u}{inner}{done}{done}",
        )

    def test_lists(self):
        self.laid((("rows", "t", (TITLE, plain(";"))),), page="{pages t a}", a="{title};")
        self.laid((("rows", "t", (plain("<"), DAY, plain(">"))),), page="{pages t a}", a="in b\n{day}", b="<{inner}>")
        self.laid((("rows", "t", (DAY,)), ("rows", "u", (DAY,))), page="{pages t a}{pages u a}", a="{use b}", b="{day}")
        self.laid((plain("<"), TITLE, ("rows", "t", ())), page="in f\n{title}{pages t a}", a="{inner}", f="<{inner}")

    def test_a_list_within_when_and_when_within_a_list(self):
        self.laid(
            (("when", "t", (("rows", "u", (("when", "v", (DAY,)),)),)),),
            page="{when t}{pages u a}{done}", a="{when v}{day}{done}",
        )

    def test_when_within_when(self):
        self.laid(
            (("when", "t", (plain("1"), ("when", "u", (plain("2"), ("when", "t", (DAY, TITLE)))), plain("3"))),),
            page="{when t}1{when u}2{when t}{day}{use a}{done}{done}3{done}", a="{title}",
        )

    def test_what_comes_to_no_pieces_stays(self):
        self.laid((("when", "t", ()),), page="{when t}{done}")
        self.laid((("when", "t", ()),), page="{when t}{inner}{done}")
        self.laid((("when", "t", ()),), page="{when t}{use a}{done}", a="")
        self.laid((("when", "t", (("when", "t", ()),)),), page="{when t}{when t}{use a}{done}{done}", a="")
        self.laid((("rows", "t", ()),), page="{pages t a}", a="")
        self.laid((plain("a"), ("when", "t", ()), plain("b")), page="a{when t}{done}b")
        self.laid((plain("a"), ("rows", "t", ()), plain("b")), page="a{pages t a}b", a="")

    def test_plain_ones_that_meet(self):
        self.laid((plain("abc"),), page="a{use a}c", a="b")
        self.laid((plain("ac"),), page="a{use a}c", a="")
        self.laid((plain("a" * 60 + "b" * 60 + "c" * 60),), page="in a\n" + "b" * 60, a="a" * 60 + "{inner}" + "c" * 60)
        self.laid((plain("xyxyxy"),), page="{use a}{use a}{use a}", a="{use b}y", b="x")
        self.laid((("when", "t", (plain("abab"),)),), page="{when t}{use a}{use a}{done}", a="a{use b}", b="b")
        self.laid((("rows", "t", (plain("<ab>"),)),), page="{pages t a}", a="in b\na{use c}", b="<{inner}>", c="b")
        self.laid((("when", "t", (plain("<x>"),)),), page="in a\nx", a="{when t}<{inner}>{done}")

    def test_by_names(self):
        site = site_of({"page": "{title}"})
        self.assertEqual(flat_of(name="page", site=site), (TITLE,))

    def test_four_and_twenty_fillings_of_twelve_pieces(self):
        site = site_of({"page": "{use a}" * 12, "a": "{use b}" + "{day}" * 11, "b": "x"})
        self.assertEqual(against(site, "page"), ("much", 25))
        site.hang("page", template_in("in -\n" + "{use a}" * 11))
        self.assertEqual(flat_of(site, "page"), ((plain("x"),) + (DAY,) * 11) * 11)


class FaultTest(unittest.TestCase):
    def refused(self, word, what, name="page", **templates):
        site = site_of(templates)
        was = state_of(site)
        check_refused(self, Fault, {"word": word, "what": what}, flat_of, site, name)
        check_refused(self, Fault, {"word": word, "what": what}, flat_of, name=name, site=site)
        self.assertEqual(state_of(site), was)

    def test_none(self):
        self.refused("none", ["page"])
        self.refused("none", ["gone"], "gone", page="x")
        self.refused("none", ["page", "a", "gone"], page="{use a}", a="in gone\n")
        self.refused("none", ["page", "gone"], page="{when t}{pages t gone}{done}")

    def test_ring(self):
        self.refused("ring", ["page", "page"], page="{use page}")
        self.refused("ring", ["page", "a", "b", "a"], page="{use a}", a="{when t}{use b}{done}", b="in a\n")

    def test_deep(self):
        self.refused("deep", ["page", "a"], page="{pages t a}", a="{body}")
        self.refused("deep", ["page", "a", "b"], page="{pages t a}", a="{use b}", b="{pages t c}", c="")

    def test_much(self):
        self.refused("much", 25, page="{use a}" * 12, a="{use b}", b="")

    def test_the_road_is_the_askers_own(self):
        site = Site()
        first = check_refused(self, Fault, {"word": "none", "what": ["page"]}, flat_of, site, "page")
        first.what.append("x")
        check_refused(self, Fault, {"word": "none", "what": ["page"]}, flat_of, site, "page")


def filled(site, pieces, path):
    """Laid out pieces filled for the page, told a second time."""
    title, day, draft, tags, under, olds, rows = site.source(path)
    text = ""
    for piece in pieces:
        if piece[0] == "plain":
            text += piece[1]
        elif piece[0] == "to":
            text += "nowhere" if site.lead(piece[1]) is None else "/" + site.lead(piece[1])
        elif piece[0] == "when":
            text += filled(site, piece[2], path) if piece[1] in tags else ""
        elif piece[0] == "rows":
            text += "".join(filled(site, piece[2], other) for other in site.pages_of(piece[1]))
        elif piece[1] == "body":
            blocks = blocks_of(rows)
            leads = {to: site.lead(to) and "/" + site.lead(to) for to in targets_of(blocks)}
            text += marked(blocks, list(leads.items()))
        else:
            text += {"title": escaped(title), "path": path, "day": str(day), "tags": ", ".join(tags)}[piece[1]]
    return text


def all_laid(pieces):
    """All tuples of pieces, those within when and rows too."""
    yield pieces
    for piece in pieces:
        if piece[0] in ("when", "rows"):
            yield from all_laid(piece[2])


class MadeFlatTest(unittest.TestCase):
    NAMES, TAGS, PATHS = ("page", "a", "b", "c", "d"), "tuv", ("a", "b", "c/d", "e", "f")

    def layered_sites(self, seed, many):
        chance = random.Random(seed)
        return [chance_layers(chance, self.NAMES, self.TAGS, self.PATHS) for time in range(many)]

    def test_all_kinds(self):
        site = site_of(
            {"page": "in b\n<{title}>{pages t a}", "a": "in b\n{path}", "b": "({inner})", "ring": "{use ring}"},
            {"x": source_of("X&", tags=("t",), olds=("o",)), "y": source_of("Y", day=2, tags=("t", "u")),
             "z": source_of("Z", under="ring"), "w": source_of("W", under="gone"), "v": source_of("V", draft=True)},
            most=1,
        )
        was = state_of(site)
        told = made_flat(site)
        self.assertEqual(told, made(site))
        self.assertEqual(told[:3], [
            ("/o", "moved", '<a href="/x">moved</a>'),
            ("/tag/t", "part", '<h1>t 1/2</h1>\n<li><a href="/y">Y</a></li>\n<a href="/tag/t/2">behind</a>'),
            ("/tag/t/2", "part", '<h1>t 2/2</h1>\n<li><a href="/x">X&amp;</a></li>\n<a href="/tag/t">before</a>'),
        ])
        self.assertEqual(told[4:], [
            ("/w", "fault", "none gone"), ("/x", "page", "(<X&amp;>(y)(x))"), ("/y", "page", "(<Y>(y)(x))"),
            ("/z", "fault", "ring ring ring"),
        ])
        self.assertEqual(made_flat(site=site), told)
        told.clear()
        self.assertEqual(made_flat(site), made(site))
        self.assertEqual(state_of(site), was)

    def test_nothing(self):
        self.assertEqual(made_flat(Site()), [])

    def test_both_ways_alike_over_layered_sites(self):
        kinds = []
        for site in self.layered_sites(18, 400):
            told = made_flat(site)
            self.assertIsNone(unlike(made(site), told))
            self.assertEqual(told, made(site))
            kinds.extend(kind for address, kind, text in told)
        for kind, least in (("page", 600), ("fault", 30), ("part", 400), ("moved", 50)):
            self.assertGreater(kinds.count(kind), least, kind)

    def test_both_ways_alike_over_rows_of_deeds(self):
        chance = random.Random(19)
        for time in range(30):
            site = Site(today=2, most=2)
            for step in range(40):
                chance_deed(chance, site, self.NAMES[:3], self.TAGS, self.PATHS)
                self.assertEqual(made_flat(site), made(site))

    def test_flat_is_as_it_is_told(self):
        laid = 0
        for site in self.layered_sites(20, 300):
            for name in self.NAMES:
                if against(site, name) is None:
                    pieces = flat_of(site, name)
                    for row in all_laid(pieces):
                        self.assertIsInstance(row, tuple)
                        self.assertNotIn("use", [piece[0] for piece in row])
                        self.assertNotIn("pages", [piece[0] for piece in row])
                        self.assertNotIn(("field", "inner"), row)
                        for one, other in zip(row, row[1:]):
                            self.assertFalse(one[0] == other[0] == "plain")
                    for path in site.pages():
                        if site.source(path)[4] == name:
                            self.assertEqual(filled(site, pieces, path), page_text(site, path))
                            laid += 1
        self.assertGreater(laid, 500)


if __name__ == "__main__":
    unittest.main()

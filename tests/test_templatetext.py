import itertools
import random
import re
import unittest

from checks import check_refused
from pagemaker.errors import BadText
from pagemaker.templates import is_template
from pagemaker.templatetext import template_in, template_text

TITLE = ("field", "title")
EVERY_KIND = (
    "frame",
    (
        ("plain", "<p>\n"), TITLE, ("field", "path"), ("use", "foot"), ("pages", "news", "item"), ("to", "a/b/c"),
        ("when", "hot", (("plain", " x\n"), ("field", "inner"))), ("plain", "\n\n"), ("field", "body"),
        ("field", "tags"),
    ),
)
EVERY_KIND_TEXT = (
    "in frame\n<p>\n{title}{path}{use foot}{pages news item}{to a/b/c}{when hot} x\n{inner}{done}\n\n{body}{tags}"
)


def whens(deep, *pieces):
    """The pieces within so many whens."""
    for at in range(deep):
        pieces = (("when", "t", pieces),)
    return pieces


class ThereAndBackTest(unittest.TestCase):
    def same(self, template, text):
        self.assertIs(is_template(template), True, template)
        self.assertEqual(template_text(template), text)
        self.assertEqual(template_in(text), template)
        self.assertEqual(repr(template_in(text)), repr(template))

    def test_every_kind(self):
        self.same(EVERY_KIND, EVERY_KIND_TEXT)

    def test_no_pieces(self):
        self.same(("", ()), "in -\n")
        self.same(("abcdefgh", ()), "in abcdefgh\n")

    def test_each_kind_alone(self):
        for word in ("title", "path", "day", "tags", "body", "inner"):
            self.same(("", (("field", word),)), "in -\n{" + word + "}")
        self.same(("", (("use", "use"),)), "in -\n{use use}")
        self.same(("", (("use", "title"),)), "in -\n{use title}")
        self.same(("", (("pages", "when", "done"),)), "in -\n{pages when done}")
        self.same(("", (("to", "to"),)), "in -\n{to to}")
        self.same(("in", (("to", "a/tag/tag"),)), "in in\n{to a/tag/tag}")
        self.same(("", (("when", "done", ()),)), "in -\n{when done}{done}")

    def test_plain_ones(self):
        for text in ("\n", "in -\n", "\n\n\n", " ", "title", "when t", "done", "x" * 60, "\n" * 60, "a\nb\n", "#<&\">"):
            self.same(("", (("plain", text),)), "in -\n" + text)
            self.same(("", (TITLE, ("plain", text), TITLE)), "in -\n{title}" + text + "{title}")
            self.same(("", (("when", "t", (("plain", text),)),)), "in -\n{when t}" + text + "{done}")

    def test_plain_ones_on_both_sides_of_a_when(self):
        within = ("when", "t", (("plain", "b"),))
        self.same(("", (("plain", "a"), within, ("plain", "c"))), "in -\na{when t}b{done}c")
        self.same(("", (("plain", "a"), ("when", "t", ()), ("plain", "c"))), "in -\na{when t}{done}c")

    def test_when_within_when(self):
        for deep in (1, 2, 3):
            self.same(("", whens(deep)), "in -\n" + "{when t}" * deep + "{done}" * deep)
            self.same(("", whens(deep, TITLE)), "in -\n" + "{when t}" * deep + "{title}" + "{done}" * deep)
        self.same(("", whens(3) + whens(3)), "in -\n" + ("{when t}" * 3 + "{done}" * 3) * 2)
        pieces = (("when", "a", (("when", "b", ()), TITLE, ("when", "c", (TITLE,)))), TITLE)
        self.same(("", pieces), "in -\n{when a}{when b}{done}{title}{when c}{title}{done}{done}{title}")

    def test_at_the_bounds(self):
        self.same(("", (TITLE,) * 12), "in -\n" + "{title}" * 12)
        self.same(("", whens(3, *(TITLE,) * 9)), "in -\n" + "{when t}" * 3 + "{title}" * 9 + "{done}" * 3)

    def test_by_name(self):
        self.assertEqual(template_text(template=("", ())), "in -\n")
        self.assertEqual(template_in(text="in -\n"), ("", ()))


class RefusedTest(unittest.TestCase):
    def refused(self, at, text):
        check_refused(self, BadText, {"at": at}, template_in, text)

    def hole_refused(self, hole):
        self.refused(5, "in -\n" + hole)
        self.refused(6, "in -\na" + hole + "b")
        self.refused(12, "in -\n{title}" + hole)
        self.refused(13, "in -\n{when t}" + hole + "{done}")

    def test_it_does_not_begin_so(self):
        for text in (
            "", "\n", "in", "in -", "in a", "in \n", "in\n", "in  -\n", "in - \n", "in -a\n", " in -\n", "In -\n",
            "in A\n", "in abcdefghi\n", "in a/b\n", "in a b\n", "in --\n", "on -\n", "in -{title}", "in {title}\n",
            "{title}", "in a}\n", "\nin -\n", "in-\n", "{", "}", "in -}\n{", "title T",
        ):
            self.refused(0, text)
            self.refused(0, text + "{no}")

    def test_holes_that_are_none_of_these(self):
        for words in (
            "", " ", "titl", "Title", "title ", " title", "title title", "rows", "under", "plain a", "field title",
            "use", "use ", "use A", "use a b", "use  a", "use a ", "use a/b", "use abcdefghi", "Use a",
            "pages", "pages a", "pages a b c", "pages  a b", "pages a  b", "pages A b", "pages a B", "pages a/b c",
            "to", "to ", "to tag", "to tag/a", "to a/b/c/d", "to A", "to a b", "to /a", "to a/",
            "when", "when ", "when A", "when a b", "when  a", "when a ", "when a/b", "when abcdefghi",
            "Done", "done ", " done", "done t", "in a", "in -", "\n", "title\n", "use\na", "use a\n", "{title", "{",
        ):
            self.hole_refused("{" + words + "}")

    def test_holes_that_go_to_the_end(self):
        for words in ("", "title", "use a", "done", "when t", "title{", "{"):
            self.refused(5, "in -\n{" + words)
            self.refused(12, "in -\n{title}{" + words)
            self.refused(13, "in -\n{when t}{" + words)

    def test_a_done_too_many(self):
        self.refused(5, "in -\n{done}")
        self.refused(6, "in -\na{done}{when t}{done}")
        self.refused(19, "in -\n{when t}{done}{done}")
        self.refused(13 + 8 + 12, "in -\n{when t}{when t}{done}{done}{done}{done}")

    def test_a_when_four_deep(self):
        self.refused(5 + 24, "in -\n" + "{when t}" * 4 + "{done}" * 4)
        self.refused(5 + 24, "in -\n" + "{when t}" * 5 + "{done}" * 5)
        self.refused(5 + 24, "in -\n" + "{when t}" * 4)
        self.refused(5 + 42 + 24, "in -\n" + "{when t}" * 3 + "{done}" * 3 + "{when t}" * 4)

    def test_a_brace_that_ends_no_hole(self):
        self.refused(5, "in -\n}")
        self.refused(6, "in -\na}")
        self.refused(12, "in -\n{title}}")
        self.refused(13, "in -\n{when t}}{done}")
        self.refused(19, "in -\n{when t}{done}}")

    def test_whichever_comes_first(self):
        self.refused(5, "in -\n}{no}")
        self.refused(5, "in -\n{no}}")
        self.refused(6, "in -\na{no}{done}}" + "{when t}" * 4)
        self.refused(5, "in -\n{done}{no}}")
        self.refused(0, "on -\n{no}")
        self.refused(13, "in -\n{when t}{no}")
        self.refused(13, "in -\n{when t}}")
        self.refused(5 + 14 * 7, "in -\n" + "{title}" * 14 + "}")
        self.refused(5 + 61, "in -\n" + "x" * 61 + "{no}")
        self.refused(17, "in -\n{body}{body}{no}")

    def test_a_when_that_is_not_done(self):
        self.refused(5, "in -\n{when t}")
        self.refused(5, "in -\n{when t}{when t}")
        self.refused(5, "in -\n{when t}{when t}{done}")
        self.refused(19, "in -\n{when t}{done}{when t}")
        self.refused(20, "in -\n{when t}{done}a{when t}{when t}{done}{title}")

    def test_a_when_that_is_not_done_ahead_of_nought(self):
        self.refused(5, "in -\n{when t}" + "{title}" * 13)
        self.refused(5, "in -\n{when t}" + "x" * 61)
        self.refused(5, "in -\n{when t}{inner}{inner}")
        self.refused(11, "in -\n{body}{when t}{body}")

    def test_nought_by_how_many(self):
        self.refused(0, "in -\n" + "{title}" * 13)
        self.refused(0, "in -\n{when t}" + "{title}" * 12 + "{done}")
        self.refused(0, "in -\n" + "{when t}{done}" * 13)
        self.refused(0, "in -\n" + "x" * 61)
        self.refused(0, "in -\n{when t}" + "x" * 61 + "{done}")
        self.refused(0, "in -\n" + "\n" * 61)
        for field in ("{inner}", "{body}"):
            self.refused(0, "in -\n" + field * 2)
            self.refused(0, "in -\n" + field + "{when t}" + field + "{done}")
            self.refused(0, "in -\n{when t}" + field + "{done}{when t}" + field + "{done}")
        self.assertEqual(len(template_in("in -\n{inner}{body}")[1]), 2)

    def test_of_two_thousand_signs(self):
        self.refused(0, "in -\n" + "{pages abcdefgh abcdefgh}" * 79)
        self.refused(1999, "in -\n" + "x" * 1994 + "{")


def told_again(text):
    """What template_in tells, or the place, by another way: patterns for the holes and a stack for the whens."""
    head = re.match(r"in (-|[a-z]{1,8})\n", text)
    if head is None:
        return 0
    name, path = "[a-z]{1,8}", r"(?!tag\b)[a-z]{1,8}(?:/[a-z]{1,8}){0,2}"
    hole = re.compile(
        r"\{(?:(title|path|day|tags|body|inner)|(use) (%s)|(pages) (%s) (%s)|(to) (%s)|when (%s)|done)\}"
        % (name, name, name, path, name)
    )
    at, opened, stack = head.end(), [], [[]]
    while at < len(text):
        plain = re.compile(r"[^{}]+").match(text, at)
        if plain:
            stack[-1].append(("plain", plain.group()))
            at = plain.end()
            continue
        found = hole.match(text, at)
        if found is None:
            return at
        groups = [group for group in found.groups() if group is not None]
        if found.group() == "{done}":
            if not opened:
                return at
            opened.pop()
            within = tuple(stack.pop())
            stack[-1][-1] += (within,)
        elif found.group().startswith("{when "):
            if len(opened) == 3:
                return at
            opened.append(at)
            stack[-1].append(("when", groups[0]))
            stack.append([])
        else:
            stack[-1].append(tuple(groups) if len(groups) > 1 else ("field", groups[0]))
        at = found.end()
    if opened:
        return opened[0]
    template = ("" if head.group(1) == "-" else head.group(1), tuple(stack[0]))
    return template if is_template(template) else 0


class AgainTest(unittest.TestCase):
    def compared(self, text):
        try:
            told = template_in(text)
        except BadText as error:
            told = error.at
        self.assertEqual(told, told_again(text), text)
        if isinstance(told, tuple):
            self.assertEqual(template_text(told), text)
        return told

    def test_many_small_texts(self):
        bits = ("{", "}", "{done}", "{when t}", "{title}", "a")
        for many in range(6):
            for several in itertools.product(bits, repeat=many):
                self.compared("in -\n" + "".join(several))

    def test_longer_texts(self):
        chance = random.Random(9)
        bits = (
            "{title}", "{when t}", "{done}", "{when u}", "{done}", "{use a}", "{pages t a}", "{to a/b}", "{body}",
            "\n", "x y", "{inner}", "{day}",
        )
        wrong = ("{", "}", "{to tag}", "{use }", "x" * 60)
        templates = 0
        for time in range(6000):
            several = [chance.choice(bits) for at in range(chance.randrange(14))]
            if chance.randrange(3) == 0:
                several.insert(chance.randrange(len(several) + 1), chance.choice(wrong))
            told = self.compared(chance.choice(("in -\n", "in a\n")) + "".join(several))
            templates += isinstance(told, tuple)
        self.assertGreater(templates, 500)


if __name__ == "__main__":
    unittest.main()

import copy
import itertools
import re
import unittest

from pagemaker.errors import NoLead
from pagemaker.marks import blocks_of, marked, parts_of, targets_of

MARK = re.compile(r"\*([^*]+)\*|\[([^\]]+)\]\(((?!tag[/)])[a-z]{1,8}(?:/[a-z]{1,8}){0,2})\)")


def parts_by_pattern(row):
    """The parts of a row, told in another way."""
    parts, done = [], 0
    for found in MARK.finditer(row):
        if done < found.start():
            parts.append(("plain", row[done:found.start()]))
        strong, text, path = found.groups()
        parts.append(("link", text, path) if strong is None else ("strong", strong))
        done = found.end()
    return parts + ([("plain", row[done:])] if done < len(row) else [])


class PartsTest(unittest.TestCase):
    def told(self, row, *parts):
        self.assertEqual(parts_of(row), list(parts), row)

    def test_plain(self):
        self.told("")
        self.told(" ", ("plain", " "))
        self.told("a b", ("plain", "a b"))
        self.told("# a", ("plain", "# a"))

    def test_strong(self):
        self.told("*a*", ("strong", "a"))
        self.told("*a b*", ("strong", "a b"))
        self.told("x*a*y", ("plain", "x"), ("strong", "a"), ("plain", "y"))
        self.told("*a**b*", ("strong", "a"), ("strong", "b"))
        self.told("*a*b*", ("strong", "a"), ("plain", "b*"))
        self.told("* *", ("strong", " "))

    def test_link(self):
        self.told("[a](b)", ("link", "a", "b"))
        self.told("[a b](b/c/d)", ("link", "a b", "b/c/d"))
        self.told("x[a](b)y", ("plain", "x"), ("link", "a", "b"), ("plain", "y"))
        self.told("[a](b)[c](d)", ("link", "a", "b"), ("link", "c", "d"))
        self.told("[a](b))", ("link", "a", "b"), ("plain", ")"))

    def test_halves_of_marks(self):
        for row in (
            "*", "*a", "a*", "[", "[a", "[a]", "[a](", "[a](b", "[a](bc", "[a] (b)", "a](b)", "(b)", "[a]b)", "](b)",
        ):
            self.told(row, ("plain", row))

    def test_nothing_within(self):
        self.told("**", ("plain", "**"))
        self.told("**a*", ("plain", "*"), ("strong", "a"))
        self.told("**a**", ("plain", "*"), ("strong", "a"), ("plain", "*"))
        self.told("***", ("plain", "***"))
        self.told("[](b)", ("plain", "[](b)"))
        self.told("[a]()", ("plain", "[a]()"))

    def test_marks_within_marks(self):
        self.told("*[a](b)*", ("strong", "[a](b)"))
        self.told("[*a*](b)", ("link", "*a*", "b"))
        self.told("*x [a*](b)", ("strong", "x [a"), ("plain", "](b)"))
        self.told("[*a](b)*", ("link", "*a", "b"), ("plain", "*"))
        self.told("[[a](b)", ("link", "[a", "b"))
        self.told("[[a](b)](c)", ("link", "[a", "b"), ("plain", "](c)"))

    def test_a_shut_or_star_in_a_text(self):
        self.told("[a]b](c)", ("plain", "[a]b](c)"))
        self.told("[a][b](c)", ("plain", "[a]"), ("link", "b", "c"))
        self.told("[]](b)", ("plain", "[]](b)"))
        self.told("[a(](b)", ("link", "a(", "b"))
        self.told("[a)](b)", ("link", "a)", "b"))

    def test_no_path(self):
        for path in ("tag", "tag/a", "A", "a b", "/a", "a/", "a/b/c/d", "abcdefghi", "a1", "(a", " a"):
            self.told(f"[a]({path})", ("plain", f"[a]({path})"))
        self.told("[a](*b*)", ("plain", "[a]("), ("strong", "b"), ("plain", ")"))
        self.told("[a](tag)[b](tags)", ("plain", "[a](tag)"), ("link", "b", "tags"))
        self.told("[a]([b](c)", ("plain", "[a]("), ("link", "b", "c"))

    def test_as_told_in_another_way(self):
        for several in itertools.product(("*", "[", "]", "](", "(", ")", "a", "(a)"), repeat=6):
            row = "".join(several)
            self.assertEqual(parts_of(row), parts_by_pattern(row), row)

    def test_lists_are_ones_own(self):
        told = parts_of("*a* b")
        told.append(1)
        self.assertEqual(parts_of("*a* b"), [("strong", "a"), ("plain", " b")])
        self.assertIsNot(parts_of(""), parts_of(""))
        self.assertEqual(parts_of(row="a"), [("plain", "a")])


def plain(text):
    """A line of one plain part."""
    return (("plain", text),)


class BlocksTest(unittest.TestCase):
    def told(self, rows, *blocks):
        self.assertEqual(blocks_of(rows), list(blocks), rows)

    def test_none(self):
        self.told(())
        self.told(("",))
        self.told(("", "", ""))

    def test_heads(self):
        self.told(("# a",), ("head", 1, plain("a")))
        self.told(("## a",), ("head", 2, plain("a")))
        self.told(("### *a* b",), ("head", 3, (("strong", "a"), ("plain", " b"))))
        self.told(("# ",), ("head", 1, ()))
        self.told(("#  a",), ("head", 1, plain(" a")))
        self.told(("# # a",), ("head", 1, plain("# a")))
        self.told(("# a", "# b"), ("head", 1, plain("a")), ("head", 1, plain("b")))

    def test_no_heads(self):
        for row in ("#### a", "##### a", "#a", "#", "###", "####", " # a", "##a b", "#### ", "*# a", "#x a", "#x# a"):
            self.told((row,), ("text", (plain(row),)))

    def test_lists(self):
        self.told(("- a",), ("list", (plain("a"),)))
        self.told(("- a", "- *b*"), ("list", (plain("a"), (("strong", "b"),))))
        self.told(("- ",), ("list", ((),)))
        self.told(("-  a",), ("list", (plain(" a"),)))
        self.told(("- # a",), ("list", (plain("# a"),)))
        self.told(("- - a",), ("list", (plain("- a"),)))

    def test_no_lists(self):
        for row in ("-", "-a", " - a", "-- a"):
            self.told((row,), ("text", (plain(row),)))

    def test_texts(self):
        self.told(("a", "b"), ("text", (plain("a"), plain("b"))))
        self.told((" ",), ("text", (plain(" "),)))
        self.told(("a [b](c)",), ("text", ((("plain", "a "), ("link", "b", "c")),)))

    def test_parted_by_empty_rows(self):
        self.told(("a", "", "b"), ("text", (plain("a"),)), ("text", (plain("b"),)))
        self.told(("", "a", "", "", "b", ""), ("text", (plain("a"),)), ("text", (plain("b"),)))
        self.told(("- a", "", "- b"), ("list", (plain("a"),)), ("list", (plain("b"),)))

    def test_parted_by_each_other(self):
        self.told(
            ("a", "- b", "- c", "d", "e", "- f"),
            ("text", (plain("a"),)), ("list", (plain("b"), plain("c"))),
            ("text", (plain("d"), plain("e"))), ("list", (plain("f"),)),
        )
        self.told(
            ("a", "# b", "c", "- d", "## e", "- f"),
            ("text", (plain("a"),)), ("head", 1, plain("b")), ("text", (plain("c"),)),
            ("list", (plain("d"),)), ("head", 2, plain("e")), ("list", (plain("f"),)),
        )

    def test_marks_do_not_go_over_rows(self):
        self.told(("*a", "b*"), ("text", (plain("*a"), plain("b*"))))

    def test_told_anew(self):
        rows = ("# a", "- b", "c")
        told = blocks_of(rows)
        told.clear()
        self.assertEqual(len(blocks_of(rows)), 3)
        self.assertEqual(rows, ("# a", "- b", "c"))
        self.assertEqual(blocks_of(rows=("a",)), [("text", (plain("a"),))])


class TargetsTest(unittest.TestCase):
    def test_none(self):
        self.assertEqual(targets_of([]), [])
        self.assertEqual(targets_of(blocks_of(("# a", "- *b*", "c"))), [])

    def test_in_order_and_twice(self):
        blocks = blocks_of(("[x](d) [y](a)", "# [x](c)", "- [x](b)", "- [x](a)[x](a)", "z", "[x](d/e)"))
        self.assertEqual(targets_of(blocks), ["d", "a", "c", "b", "a", "a", "d/e"])

    def test_told_anew(self):
        blocks = blocks_of(("[x](d)",))
        kept = copy.deepcopy(blocks)
        targets_of(blocks).append("e")
        self.assertEqual(targets_of(blocks=blocks), ["d"])
        self.assertEqual(blocks, kept)
        self.assertIsNot(targets_of([]), targets_of([]))


class MarkedTest(unittest.TestCase):
    def told(self, rows, text, leads=(), **strict):
        self.assertEqual(marked(blocks_of(rows), list(leads), **strict), text)

    def test_no_blocks(self):
        self.told((), "")
        self.told((), "", (("a", "/a"),))

    def test_heads(self):
        self.told(("# a", "## b", "### c"), "<h1>a</h1>\n<h2>b</h2>\n<h3>c</h3>")
        self.told(("# ",), "<h1></h1>")

    def test_lists(self):
        self.told(("- a", "- b"), "<ul>\n<li>a</li>\n<li>b</li>\n</ul>")
        self.told(("- ",), "<ul>\n<li></li>\n</ul>")

    def test_texts(self):
        self.told(("a",), "<p>a</p>")
        self.told(("a", "b", "", "c"), "<p>a\nb</p>\n<p>c</p>")

    def test_parts(self):
        leads = (("d", "/d"), ("e", None), ("f/g", "/h"))
        self.told(
            ("a *b* [c](d)", "[x](e)[y](f/g)"),
            '<p>a <b>b</b> <a href="/d">c</a>\n<s>x</s><a href="/h">y</a></p>', leads,
        )
        self.told(("# [c](d)",), '<h1><a href="/d">c</a></h1>', leads)
        self.told(("- [c](e)", "- *b*"), "<ul>\n<li><s>c</s></li>\n<li><b>b</b></li>\n</ul>", leads)

    def test_escaped(self):
        self.told(('&<>"',), "<p>&amp;&lt;&gt;&quot;</p>")
        self.told(('*&<>"*',), "<p><b>&amp;&lt;&gt;&quot;</b></p>")
        self.told(('[&<>"](a)',), '<p><a href="/a">&amp;&lt;&gt;&quot;</a></p>', (("a", "/a"),))
        self.told(('[&<>"](a)',), "<p><s>&amp;&lt;&gt;&quot;</s></p>", (("a", None),))
        self.told(('# &<>"', '- &<>"'), "<h1>&amp;&lt;&gt;&quot;</h1>\n<ul>\n<li>&amp;&lt;&gt;&quot;</li>\n</ul>")

    def test_no_lead(self):
        rows = ("[x](a)", "# [x](c)", "- [x](b)")
        for leads, path in (
            ([], "a"), ([("a", "/a")], "c"), ([("a", None)], "c"), ([("a", "/a"), ("c", None)], "b"),
            ([("b", "/b"), ("c", "/c")], "a"), ([("a", "/a"), ("b", "/b")], "c"),
        ):
            with self.assertRaises(NoLead) as caught:
                marked(blocks_of(rows), leads)
            self.assertEqual(caught.exception.path, path)
            with self.assertRaises(NoLead):
                marked(blocks=blocks_of(rows), leads=leads, strict=True)

    def test_not_strict(self):
        rows = ("[x](a) [y](b) [z](c)",)
        text = '<p><s>x</s> <a href="/b">y</a> <s>z</s></p>'
        self.told(rows, text, (("b", "/b"), ("c", None)), strict=False)
        self.told(("[x](a)",), "<p><s>x</s></p>", (), strict=False)

    def test_strict_by_name_alone(self):
        with self.assertRaises(TypeError):
            marked([], [], True)

    def test_nothing_handed_in_is_changed(self):
        blocks = blocks_of(("[x](a)", "# b"))
        leads = [("a", "/a"), ("z", None)]
        once = marked(blocks, leads)
        self.assertEqual(blocks, blocks_of(("[x](a)", "# b")))
        self.assertEqual(leads, [("a", "/a"), ("z", None)])
        self.assertEqual(marked(blocks, leads), once)


if __name__ == "__main__":
    unittest.main()

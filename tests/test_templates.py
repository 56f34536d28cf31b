import unittest

from pagemaker.templates import calls_of, is_template
from things import OTHER_THINGS

DAY = ("field", "day")
INNER = ("field", "inner")
BODY = ("field", "body")


def whens(deep, *pieces):
    """The pieces within so many whens."""
    for at in range(deep):
        pieces = (("when", "t", pieces),)
    return pieces


class IsTemplateTest(unittest.TestCase):
    def so(self, *pieces):
        self.assertIs(is_template(("", pieces)), True, pieces)
        self.assertIs(is_template(("", (("when", "t", pieces),))), True, pieces)

    def not_so(self, *pieces):
        self.assertIs(is_template(("", pieces)), False, pieces)
        self.assertIs(is_template(("", (("when", "t", pieces),))), False, pieces)

    def test_holders(self):
        for holder in ("", "a", "page", "abcdefgh", "tag"):
            self.assertIs(is_template((holder, ())), True, holder)
        for holder in ("-", "A", "abcdefghi", "a/b", " ", "a\n", None, 0, False, (), [], ("a",), ["a"]):
            self.assertIs(is_template((holder, ())), False, holder)

    def test_each_kind_of_piece(self):
        self.so()
        self.so(("plain", "a"))
        for word in ("title", "path", "day", "tags", "body", "inner"):
            self.so(("field", word))
        self.so(("use", "a"))
        self.so(("pages", "t", "a"))
        self.so(("to", "a/b/c"))
        self.so(("when", "t", ()))
        self.so(("when", "t", (DAY,)))
        self.so(("plain", "a"), DAY, ("plain", "b"), ("use", "a"), ("pages", "t", "a"), ("to", "a"), INNER, BODY)

    def test_plain_signs(self):
        for text in ("x" * 60, "\n", " ", "\n\n", "a\nb", "\"'<>&#*[](", "\n" * 60, "~"):
            self.so(("plain", text))
        for text in ("", "x" * 61, "{", "}", "a{b", "a}b", "{title}", "\n" * 61):
            self.not_so(("plain", text))

    def test_plain_things(self):
        for thing in (0, True, None, ("a",), ["a"], (), []):
            self.not_so(("plain", thing))

    def test_fields(self):
        for word in ("", "Title", "rows", "under", "use", "plain", "title ", 0, None, True, ("title",), ["title"]):
            self.not_so(("field", word))

    def test_uses(self):
        for name in ("", "A", "a/b", "abcdefghi", 0, None, True, ("a",), ["a"]):
            self.not_so(("use", name))

    def test_pages(self):
        for wrong in ("", "A", "a/b", "abcdefghi", 0, None, True, ("a",), ["a"], ()):
            self.not_so(("pages", wrong, "a"))
            self.not_so(("pages", "a", wrong))

    def test_to(self):
        for path in ("", "A", "tag", "tag/a", "a/b/c/d", "/a", 0, None, True, ("a",), ["a"]):
            self.not_so(("to", path))

    def test_when(self):
        for tag in ("", "A", "a/b", "abcdefghi", 0, None, True, ("a",), ["a"]):
            self.not_so(("when", tag, ()))
        for pieces in ([], [DAY], "", "a", None, 0, DAY, (DAY, 1), ((),)):
            self.not_so(("when", "t", pieces))

    def test_too_few_and_too_many_things(self):
        for piece in (
            (), ("plain",), ("plain", "a", "b"), ("field",), ("field", "day", "day"), ("use",), ("use", "a", "b"),
            ("pages", "a"), ("pages", "a", "b", "c"), ("to",), ("to", "a", "b"), ("when", "t"), ("when", "t", (), ()),
            ("when",), ("pages",), ("plain", "a", ()),
        ):
            self.not_so(piece)

    def test_other_pieces(self):
        for piece in (
            ("done", "a"), ("in", "a"), ("rows", "t", ()), ("Plain", "a"), ("", "a"), (None, "a"), (["plain"], "a"),
            ("title",), "title", "plain", None, 0, True, ["plain", "a"], ["field", "day"], ["when", "t", ()],
        ):
            self.not_so(piece)

    def test_lists_for_tuples(self):
        self.assertIs(is_template(["", ()]), False)
        self.assertIs(is_template(("", [])), False)
        self.assertIs(is_template(("", [DAY])), False)

    def test_two_plain_ones_side_by_side(self):
        self.not_so(("plain", "a"), ("plain", "b"))
        self.not_so(DAY, ("plain", "a"), ("plain", "b"), DAY)
        self.so(("plain", "a"), DAY, ("plain", "a"))
        self.so(("plain", "a"), ("when", "t", ()), ("plain", "b"))
        self.so(("plain", "a"), ("when", "t", (("plain", "b"),)), ("plain", "c"))

    def test_inner_and_body_twice(self):
        for field in (INNER, BODY):
            self.not_so(field, field)
            self.not_so(field, DAY, field)
            self.not_so(field, ("when", "t", (field,)))
            self.not_so(("when", "t", (field,)), field)
            self.not_so(("when", "t", (field,)), ("when", "u", (field,)))
        self.so(INNER, BODY)
        self.so(INNER, ("when", "t", (BODY,)))
        self.so(DAY, DAY, ("field", "title"), ("field", "title"))

    def test_how_many_pieces(self):
        self.assertIs(is_template(("", (DAY,) * 12)), True)
        self.assertIs(is_template(("", (DAY,) * 13)), False)
        self.assertIs(is_template(("", whens(1, *(DAY,) * 11))), True)
        self.assertIs(is_template(("", whens(1, *(DAY,) * 12))), False)
        self.assertIs(is_template(("", whens(3, *(DAY,) * 9))), True)
        self.assertIs(is_template(("", whens(3, *(DAY,) * 10))), False)
        self.assertIs(is_template(("", (DAY,) * 5 + whens(1, *(DAY,) * 3) + whens(2, DAY))), True)
        self.assertIs(is_template(("", (DAY,) * 6 + whens(1, *(DAY,) * 3) + whens(2, DAY))), False)

    def test_how_deep(self):
        for deep in (1, 2, 3):
            self.assertIs(is_template(("", whens(deep))), True)
            self.assertIs(is_template(("", whens(deep, DAY))), True)
        for deep in (4, 5):
            self.assertIs(is_template(("", whens(deep))), False)
            self.assertIs(is_template(("", whens(deep, DAY))), False)
        self.assertIs(is_template(("", whens(3) + whens(3))), True)
        self.assertIs(is_template(("", whens(1) + whens(4))), False)

    def test_other_things(self):
        for thing in OTHER_THINGS:
            self.assertIs(is_template(thing), False, thing)
            self.assertIs(is_template(("", (thing,))), False, thing)
            if thing != ():
                self.assertIs(is_template(("", thing)), False, thing)
        self.assertIs(is_template(("",)), False)
        self.assertIs(is_template(("", (), ())), False)
        self.assertIs(is_template(thing=("", ())), True)


class CallsTest(unittest.TestCase):
    def test_none(self):
        self.assertEqual(calls_of(("", ())), [])
        self.assertEqual(calls_of(("", (("plain", "a"), BODY, ("to", "a"), ("when", "t", (DAY,))))), [])

    def test_the_holder_first(self):
        self.assertEqual(calls_of(("h", ())), [("in", "h")])
        self.assertEqual(calls_of(("h", (("use", "a"), INNER))), [("in", "h"), ("use", "a")])

    def test_in_order_as_often(self):
        pieces = (("use", "b"), ("pages", "t", "a"), ("use", "b"), ("pages", "u", "a"), ("use", "a"))
        calls = [("use", "b"), ("pages", "a"), ("use", "b"), ("pages", "a"), ("use", "a")]
        self.assertEqual(calls_of(("", pieces)), calls)
        self.assertEqual(calls_of(("b", pieces)), [("in", "b")] + calls)

    def test_those_within_when_where_they_stand(self):
        within = ("when", "t", (("use", "b"), ("when", "u", (("pages", "t", "c"),)), ("use", "d")))
        self.assertEqual(
            calls_of(("h", (("use", "a"), within, ("use", "e")))),
            [("in", "h"), ("use", "a"), ("use", "b"), ("pages", "c"), ("use", "d"), ("use", "e")],
        )

    def test_told_anew(self):
        template = ("h", (("use", "a"),))
        calls_of(template).clear()
        self.assertEqual(calls_of(template=template), [("in", "h"), ("use", "a")])
        self.assertEqual(template, ("h", (("use", "a"),)))
        self.assertIsNot(calls_of(("", ())), calls_of(("", ())))


if __name__ == "__main__":
    unittest.main()

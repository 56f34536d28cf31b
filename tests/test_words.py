import itertools
import re
import unittest

from pagemaker.words import escaped, figures_in, is_line, is_name, is_number, is_path, is_text, number_in, plain_of
from things import OTHER_THINGS


class NameTest(unittest.TestCase):
    def test_names(self):
        for name in ("a", "z", "page", "tag", "abcdefgh", "zzzzzzzz"):
            self.assertIs(is_name(name), True, name)

    def test_every_single_sign(self):
        for number in range(128):
            sign = chr(number)
            self.assertIs(is_name(sign), "a" <= sign <= "z", number)
            self.assertIs(is_name("a" + sign), "a" <= sign <= "z", number)
            self.assertIs(is_name(sign + "a"), "a" <= sign <= "z", number)

    def test_no_names(self):
        for text in ("", "abcdefghi", "A", "Page", "pagE", "a1", "a b", " a", "a ", "a\n", "\na", "a/b", "a-b", "a_b"):
            self.assertIs(is_name(text), False, text)

    def test_other_things(self):
        for thing in OTHER_THINGS:
            self.assertIs(is_name(thing), False, thing)

    def test_by_name(self):
        self.assertIs(is_name(thing="a"), True)


class PathTest(unittest.TestCase):
    def test_paths(self):
        for path in ("a", "abcdefgh", "a/b", "a/b/c", "abcdefgh/abcdefgh/abcdefgh", "page", "a/a/a"):
            self.assertIs(is_path(path), True, path)

    def test_no_paths(self):
        for text in (
            "", "/", "//", "a/b/c/d", "/a", "a/", "a/b/", "/a/b", "a//b", "a//", "abcdefghi", "a/abcdefghi",
            "a/b/abcdefghi", "A", "a/B", "a b", "a /b", "a1", "a\n", "a/b\n", "\na", "a\n/b", "a\\b", "a.b",
        ):
            self.assertIs(is_path(text), False, text)

    def test_tag_is_no_first_name(self):
        for text in ("tag", "tag/a", "tag/a/b", "tag/tag"):
            self.assertIs(is_path(text), False, text)
        for path in ("tags", "taga/b", "tagtag", "a/tag", "a/tag/b", "a/b/tag", "a/tag/tag", "ta", "gat"):
            self.assertIs(is_path(path), True, path)

    def test_other_things(self):
        for thing in OTHER_THINGS:
            self.assertIs(is_path(thing), False, thing)

    def test_by_name(self):
        self.assertIs(is_path(thing="a/b"), True)


class EscapedTest(unittest.TestCase):
    def test_each_sign(self):
        self.assertEqual(escaped("&"), "&amp;")
        self.assertEqual(escaped("<"), "&lt;")
        self.assertEqual(escaped(">"), "&gt;")
        self.assertEqual(escaped('"'), "&quot;")

    def test_several(self):
        self.assertEqual(escaped('a<b>&"c"&&'), "a&lt;b&gt;&amp;&quot;c&quot;&amp;&amp;")

    def test_others_stay(self):
        for text in ("", " ", "abc", "'#;/", "a\nb\n", "amp;lt;"):
            self.assertEqual(escaped(text), text)

    def test_what_is_escaped_already(self):
        self.assertEqual(escaped("&amp;"), "&amp;amp;")
        self.assertEqual(escaped("&lt;&gt;&quot;"), "&amp;lt;&amp;gt;&amp;quot;")

    def test_by_name(self):
        self.assertEqual(escaped(text="<"), "&lt;")


class PlainTest(unittest.TestCase):
    def test_each_word(self):
        self.assertEqual(plain_of("&amp;"), "&")
        self.assertEqual(plain_of("&lt;"), "<")
        self.assertEqual(plain_of("&gt;"), ">")
        self.assertEqual(plain_of("&quot;"), '"')

    def test_once_only(self):
        self.assertEqual(plain_of("&amp;lt;"), "&lt;")
        self.assertEqual(plain_of("&amp;amp;quot;"), "&amp;quot;")

    def test_plain_texts_stay(self):
        for text in ("", "abc", " ", "a\nb", "amp;", ";", "'"):
            self.assertEqual(plain_of(text), text)

    def test_bare_signs(self):
        for text in ("&", "<", ">", '"', "a&b", "&amp;&", "&&amp;", "&lt;<", "a>", '"&quot;', "& amp;"):
            self.assertIsNone(plain_of(text), text)

    def test_words_cut_off(self):
        for text in ("&a", "&am", "&amp", "&l", "&lt", "&g", "&gt", "&q", "&quo", "&quot", "x&amp y", "&lt&gt;"):
            self.assertIsNone(plain_of(text), text)

    def test_other_words(self):
        for text in (
            "&apos;", "&AMP;", "&Lt;", "&amp:", "&ltt;", "&nbsp;", "&;", "&&;", "&#38;", "&l t;", "&am&amp;p;",
        ):
            self.assertIsNone(plain_of(text), text)

    def test_by_name(self):
        self.assertEqual(plain_of(text="&gt;"), ">")

    def test_both_ways(self):
        pieces = ("&", "<", ">", '"', "&amp;", "&lt;", "amp;", "lt", ";", "a", "\n")
        for several in itertools.product(pieces, repeat=4):
            text = "".join(several)
            self.assertEqual(plain_of(escaped(text)), text)
            plain = plain_of(text)
            so = re.fullmatch(r'(?:[^&<>"]|&(?:amp|lt|gt|quot);)*', text) is not None
            self.assertEqual(plain is not None, so, text)
            if plain is not None:
                self.assertEqual(escaped(plain), text)


class TextTest(unittest.TestCase):
    def test_every_single_sign(self):
        for number in range(256):
            sign = chr(number)
            so = " " <= sign <= "~" and sign != "%"
            self.assertIs(is_line("a" + sign, 2), so, number)
            self.assertIs(is_text("a" + sign, 2), so or sign == "\n", number)

    def test_how_many_signs(self):
        for so in (is_line, is_text):
            self.assertIs(so("", 0), True)
            self.assertIs(so("ab", 2), True)
            self.assertIs(so("abc", 2), False)

    def test_other_things(self):
        for thing in OTHER_THINGS:
            self.assertIs(is_text(thing, 9), isinstance(thing, str), thing)


class NumberTest(unittest.TestCase):
    def test_numbers(self):
        for number in (0, 1, -1, 999, 10 ** 30):
            self.assertIs(is_number(number), True)
        for thing in (True, False, None, "1", "", [1], (1,)):
            self.assertIs(is_number(thing), False)


class NumberInTest(unittest.TestCase):
    def test_at_most(self):
        self.assertEqual(number_in("12", 12), 12)
        self.assertIsNone(number_in("13", 12))
        self.assertIsNone(number_in("99", 12))

    def test_plain_figures(self):
        for number in (0, 1, 9, 10, 99, 100, 998, 999):
            self.assertEqual(number_in(str(number), 999), number)

    def test_others(self):
        for text in ("", "00", "01", "007", "1000", "-1", "+1", " 1", "1 ", "1_0", "a", "1.", "9" * 5000, "\u00b2"):
            self.assertIsNone(number_in(text, 999), text)

    def test_figures_however_many(self):
        for number in (0, 1, 9, 10, 101, 999, 1000, 10 ** 30, 10 ** 4000 + 7):
            self.assertEqual(figures_in(str(number)), number)
        self.assertEqual(figures_in("9" * 5000), 10 ** 5000 - 1)
        for text in ("", "00", "01", "-1", "+1", " 1", "1 ", "1_0", "a", "1.", "0" * 5000, "\u00b2", "1\n"):
            self.assertIsNone(figures_in(text), text)


if __name__ == "__main__":
    unittest.main()

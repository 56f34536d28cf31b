import itertools
import unittest

from pagemaker.errors import BadRow
from pagemaker.sources import is_source, source_of
from pagemaker.sourcetext import source_in, source_text

FULL = source_of(
    "A title: #1", day=12, draft=True, tags=("b", "a"), under="wide", olds=("x/y", "x", "old"),
    rows=("# head", "", "title x", "day 5"),
)
FULL_TEXT = "title A title: #1\nday 12\ndraft\ntags a b\nunder wide\nold old x x/y\n\n# head\n\ntitle x\nday 5"


class SourceTextTest(unittest.TestCase):
    def test_full(self):
        self.assertEqual(source_text(FULL), FULL_TEXT)

    def test_bare(self):
        self.assertEqual(source_text(source_of("T")), "title T")

    def test_each_row_alone(self):
        self.assertEqual(source_text(source_of("T", day=1)), "title T\nday 1")
        self.assertEqual(source_text(source_of("T", day=999)), "title T\nday 999")
        self.assertEqual(source_text(source_of("T", draft=True)), "title T\ndraft")
        self.assertEqual(source_text(source_of("T", tags=("a",))), "title T\ntags a")
        self.assertEqual(source_text(source_of("T", under="pages")), "title T\nunder pages")
        self.assertEqual(source_text(source_of("T", olds=("a/b",))), "title T\nold a/b")
        self.assertEqual(source_text(source_of("T", rows=("r",))), "title T\n\nr")

    def test_rows_of_no_signs(self):
        self.assertEqual(source_text(source_of("T", rows=("",))), "title T\n\n")
        self.assertEqual(source_text(source_of("T", rows=("", ""))), "title T\n\n\n")
        self.assertEqual(source_text(source_of("T", rows=("", "a", ""))), "title T\n\n\na\n")

    def test_by_name(self):
        self.assertEqual(source_text(source=FULL), FULL_TEXT)


class SourceInTest(unittest.TestCase):
    def test_full(self):
        self.assertEqual(source_in(FULL_TEXT), FULL)
        self.assertEqual(source_in(text=FULL_TEXT), FULL)

    def test_kinds(self):
        self.assertEqual(repr(source_in("title T")), repr(("T", 0, False, (), "page", (), ())))
        self.assertEqual(
            repr(source_in("title T\nday 1\ndraft")), repr(("T", 1, True, (), "page", (), ())))

    def test_both_ways_of_each_row_there_and_left_out(self):
        choices = (
            (0, 1, 999), (False, True), ((), ("a",), ("a", "b", "c")), ("page", "wide"),
            ((), ("a",), ("a", "a/b", "b", "c", "d", "e")), ((), ("",), ("", ""), ("r", ""), ("x" * 50,) * 8),
        )
        for day, draft, tags, under, olds, rows in itertools.product(*choices):
            source = source_of("T t", day=day, draft=draft, tags=tags, under=under, olds=olds, rows=rows)
            self.assertEqual(repr(source_in(source_text(source))), repr(source))

    def test_rows_of_no_signs(self):
        self.assertEqual(source_in("title T\n\n")[6], ("",))
        self.assertEqual(source_in("title T\n\n\n\n")[6], ("", "", ""))

    def refused(self, row, text):
        with self.assertRaises(BadRow) as caught:
            source_in(text)
        self.assertEqual(caught.exception.row, row, text)

    def test_title_not_so(self):
        for row in (
            "", "title", "title ", "title  T", "title T ", "Title T", "titleT", " title T", "title " + "x" * 41,
            "day 1", "draft", "tags a", "under a", "old a", "T", "title\tT",
        ):
            self.refused(0, row)
            self.refused(0, row + "\nday 1")
            self.refused(0, row + "\n\nr")

    def test_title_at_its_bounds(self):
        self.assertEqual(source_in("title " + "x" * 40)[0], "x" * 40)
        self.assertEqual(source_in("title title  x")[0], "title  x")

    def test_other_rows_not_so(self):
        for row in (
            "day", "day ", "day 0", "day 00", "day 01", "day 1000", "day 5 ", "day  5", "day -1", "day a", "day 1 2",
            "Day 5", "day " + "1" * 5000, "days 5",
            "draft ", "Draft", "draft True", " draft", "drafts",
            "tags", "tags ", "tags  a", "tags a ", "tags a  b", "tags b a", "tags a a", "tags a b c d", "tags A",
            "tags a/b", "tag a", "tags abcdefghi",
            "under", "under ", "under page", "under  a", "under a ", "under a b", "under A", "under a/b", "Under a",
            "old", "old ", "old  a", "old a ", "old b a", "old a a", "old a b c d e f g", "old tag", "old tag/a",
            "old a/b/c/d", "olds a", "old /a",
            "rows", " ", "title U", "text", "page",
        ):
            self.refused(1, "title T\n" + row)
            self.refused(1, "title T\n" + row + "\n\nr")
            self.refused(2, "title T\nday 5\n" + row)

    def test_out_of_order_and_twice(self):
        heads = ("title T", "day 5", "draft", "tags a", "under wide", "old x")
        for many in range(1, 5):
            for rows in itertools.product(range(1, 6), repeat=many):
                text = "\n".join(["title T"] + [heads[at] for at in rows])
                wrong = [at for at in range(1, many) if rows[at] <= rows[at - 1]]
                if wrong:
                    self.refused(wrong[0] + 1, text)
                    self.refused(wrong[0] + 1, text + "\n\nr")
                else:
                    self.assertEqual(source_text(source_in(text)), text)

    def test_an_empty_row_with_nothing_behind(self):
        self.refused(2, "title T\n")
        self.refused(3, "title T\nday 5\n")
        self.refused(7, "title T\nday 12\ndraft\ntags a b\nunder wide\nold old\n")

    def test_the_empty_text(self):
        self.refused(0, "")
        self.refused(0, "\n")

    def test_too_many_rows(self):
        self.assertEqual(source_in("title T\n" + "\nr" * 8)[6], ("r",) * 8)
        self.refused(10, "title T\n" + "\nr" * 9)
        self.refused(10, "title T\n" + "\n" * 9)
        self.refused(10, "title T\n" + "\nr" * 15)
        self.refused(11, "title T\ndraft\n" + "\nr" * 9)

    def test_a_row_too_long(self):
        self.assertEqual(source_in("title T\n\n" + "x" * 50)[6], ("x" * 50,))
        self.refused(2, "title T\n\n" + "x" * 51)
        self.refused(3, "title T\n\na\n" + "x" * 51 + "\n" + "x" * 51)

    def test_the_first_wrong_row_goes(self):
        self.refused(1, "title T\nday 0\ndraft draft\n\n" + "x" * 51)
        self.refused(2, "title T\nday 5\nday 0\n")

    def test_what_is_told_is_a_source(self):
        for text in (FULL_TEXT, "title T", "title T\n\n"):
            self.assertIs(is_source(source_in(text)), True)
            self.assertEqual(source_text(source_in(text)), text)
            self.assertEqual(source_in(text), source_in(text))


if __name__ == "__main__":
    unittest.main()

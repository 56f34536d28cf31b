import itertools
import unittest

from pagemaker.errors import BadSource
from pagemaker.sources import is_source, source_of, wrong_part
from things import OTHER_THINGS

PARTS = ("title", "day", "draft", "tags", "under", "olds", "rows")
PLAIN = ("Title", 5, False, ("a", "b"), "page", ("x", "y/z"), ("one", ""))

# Of each part what it may be at its bounds, and what it may not be.
RIGHT = {
    "title": ("T", "x" * 40, "a  b", "~", "a b", "#", "&<"),
    "day": (0, 1, 999),
    "draft": (True, False),
    "tags": ((), ("a",), ("a", "b", "c"), ("abcdefgh",), ("tag",)),
    "under": ("a", "page", "abcdefgh", "tag"),
    "olds": ((), ("a",), ("a", "b", "c", "d", "e", "f"), ("a", "a/b", "a/b/c"), ("a/tag",)),
    "rows": ((), ("",), ("", ""), ("x" * 50,), ("a",) * 8, (" ",), ("{",)),
}
WRONG = {
    "title": ("", "x" * 41, " ", " a", "a ", "a\nb", "a\n", "\n", 1, None, True, ("a",), ["a"]),
    "day": (-1, 1000, True, False, None, "5", "", (5,), [5]),
    "draft": (0, 1, None, "", "True", (), [True], -1),
    "tags": (
        ["a"], [], "a", "", None, 0, True, ("b", "a"), ("a", "a"), ("a", "c", "b"), ("a", "b", "c", "d"),
        ("A",), ("",), ("abcdefghi",), (1,), (None,), (["a"],), (("a",),), ("a", 1), ("a/b",),
    ),
    "under": ("", "Page", "abcdefghi", "a/b", "a\n", None, 1, False, ("page",), ["page"]),
    "olds": (
        ["a"], [], "a", None, 1, ("b", "a"), ("a", "a"), ("a", "b", "c", "d", "e", "f", "g"), ("tag",), ("tag/a",),
        ("a/b/c/d",), ("/a",), ("",), ("a/b", "a"), (1,), (True,), ([],), ("a", None),
    ),
    "rows": (
        [], ["a"], "a", "", None, 0, ("a",) * 9, ("x" * 51,), ("a\nb",), ("\n",), (1,), (None,), (("a",),), (["a"],),
        ("a", False),
    ),
}


def with_part(part, worth):
    """The plain source with another worth of a part."""
    source = list(PLAIN)
    source[PARTS.index(part)] = worth
    return tuple(source)


def made_of(source):
    """What source_of tells of these parts."""
    title, day, draft, tags, under, olds, rows = source
    return source_of(title, day=day, draft=draft, tags=tags, under=under, olds=olds, rows=rows)


class IsSourceTest(unittest.TestCase):
    def test_each_part_at_its_bounds(self):
        for part in PARTS:
            for worth in RIGHT[part]:
                self.assertIs(is_source(with_part(part, worth)), True, (part, worth))

    def test_each_part_beyond(self):
        for part in PARTS:
            for worth in WRONG[part]:
                self.assertIs(is_source(with_part(part, worth)), False, (part, worth))

    def test_each_part_another_thing(self):
        # By their writing, as True and 1 are alike to Python.
        right = {
            "title": ("'{'", "'A'", "'a b'"), "day": ("0", "1", "7"), "draft": ("True", "False"), "under": (),
            "tags": ("()", "('a',)", "('a', 'b')"), "olds": ("()", "('a',)", "('a', 'b')"),
            "rows": ("()", "('a',)", "('a', 'b')"),
        }
        for part in PARTS:
            for thing in OTHER_THINGS:
                self.assertIs(is_source(with_part(part, thing)), repr(thing) in right[part], (part, thing))

    def test_a_part_more_and_one_fewer(self):
        self.assertIs(is_source(PLAIN), True)
        self.assertIs(is_source(PLAIN + ((),)), False)
        self.assertIs(is_source(PLAIN[:6]), False)
        self.assertIs(is_source(PLAIN[1:]), False)

    def test_no_tuples(self):
        self.assertIs(is_source(list(PLAIN)), False)
        for thing in OTHER_THINGS:
            self.assertIs(is_source(thing), False, thing)

    def test_the_first_wrong_part(self):
        self.assertIsNone(wrong_part(PLAIN))
        for thing in (list(PLAIN), PLAIN[:6], PLAIN + ((),), None):
            self.assertEqual(wrong_part(thing), "tuple")
        for part in PARTS:
            self.assertEqual(wrong_part(with_part(part, WRONG[part][0])), part)

    def test_by_name(self):
        self.assertIs(is_source(thing=PLAIN), True)


class SourceOfTest(unittest.TestCase):
    def test_only_a_title(self):
        self.assertEqual(repr(source_of("T")), repr(("T", 0, False, (), "page", (), ())))
        self.assertEqual(source_of(title="T"), source_of("T"))

    def test_each_part(self):
        for part in PARTS:
            for worth in RIGHT[part]:
                source = with_part(part, worth)
                self.assertEqual(repr(made_of(source)), repr(source))

    def test_those_behind_the_star_by_name_alone(self):
        with self.assertRaises(TypeError):
            source_of("T", 5)

    def test_tags_and_olds_in_any_order(self):
        for tags in itertools.permutations(("a", "b", "c")):
            self.assertEqual(source_of("T", tags=tags)[3], ("a", "b", "c"))
        self.assertEqual(source_of("T", olds=("b/a", "b", "a"))[5], ("a", "b", "b/a"))

    def test_some_twice(self):
        self.assertEqual(source_of("T", tags=("b", "a", "b", "a", "b"))[3], ("a", "b"))
        self.assertEqual(source_of("T", tags=("c", "b", "a", "a"))[3], ("a", "b", "c"))
        olds = ("a", "b", "c", "d", "e", "f")
        self.assertEqual(source_of("T", olds=olds + olds[::-1])[5], olds)

    def test_too_many_unlike_ones(self):
        self.refused("tags", "T", tags=("a", "b", "c", "d"))
        self.refused("tags", "T", tags=("a", "a", "b", "c", "d"))
        self.refused("olds", "T", olds=("g", "a", "b", "c", "d", "e", "f", "a"))

    def test_each_part_that_is_not_so(self):
        # These are refused only as they stand in a source: source_of puts them in order.
        let = (("b", "a"), ("a", "a"), ("a", "c", "b"), ("a/b", "a"))
        for part in PARTS:
            for worth in WRONG[part]:
                if part in ("tags", "olds") and worth in let:
                    self.assertIs(is_source(made_of(with_part(part, worth))), True)
                else:
                    with self.assertRaises(BadSource) as caught:
                        made_of(with_part(part, worth))
                    self.assertEqual(caught.exception.part, part, worth)

    def test_any_thing(self):
        for part in ("tags", "olds", "rows", "draft"):
            for thing in OTHER_THINGS:
                if thing in (("a",), ("a", "b"), ()) or isinstance(thing, bool):
                    continue
                self.refused(part, "T", **{part: thing})

    def test_of_several_wrong_parts_the_first(self):
        wrong = ("", -1, 0, ["a"], "", ["a"], ["a"])
        for first in range(7):
            for others in itertools.product((True, False), repeat=6 - first):
                parts = list(PLAIN[:first]) + [wrong[first]]
                for at, so in enumerate(others, start=first + 1):
                    parts.append(PLAIN[at] if so else wrong[at])
                with self.assertRaises(BadSource) as caught:
                    made_of(tuple(parts))
                self.assertEqual(caught.exception.part, PARTS[first])

    def test_nothing_handed_in_is_changed(self):
        tags, olds, rows = ("b", "a", "b"), ("d", "c"), ("r",)
        once = source_of("T", tags=tags, olds=olds, rows=rows)
        self.assertEqual((tags, olds, rows), (("b", "a", "b"), ("d", "c"), ("r",)))
        self.assertEqual(source_of("T", tags=tags, olds=olds, rows=rows), once)

    def test_told_may_be_handed_in_again(self):
        source = source_of("T", tags=("b", "a"), olds=("d", "c"))
        self.assertIs(is_source(source), True)
        self.assertEqual(made_of(source), source)

    def refused(self, part, title, **parts):
        with self.assertRaises(BadSource) as caught:
            source_of(title, **parts)
        self.assertEqual(caught.exception.part, part)


if __name__ == "__main__":
    unittest.main()

import unittest

from checks import check_refused, state_of
from pagemaker.errors import NoPart
from pagemaker.facts import fact
from pagemaker.parts import part_reads, part_text
from pagemaker.sites import Site
from pagemaker.sources import source_of
from things import OTHER_THINGS


def tagged_site(most):
    """A Site with five pages that have the tag t, a draft and a day that comes, which have it, too."""
    site = Site(today=5, most=most)
    for path, day in (("a", 1), ("b/b", 5), ("c", 3), ("d", 3), ("e", 0), ("later", 6)):
        site.put(path, source_of(f'{path[0]} "<&>"', day=day, tags=("t",)))
    site.put("f", source_of("F", tags=("t", "draft"), draft=True))
    site.put("g", source_of("G", tags=("u",)))
    return site


def row(path):
    """The row of a page."""
    return f'<li><a href="/{path}">{path[0]} &quot;&lt;&amp;&gt;&quot;</a></li>'


class PartTextTest(unittest.TestCase):
    def told(self, most, number, *rows):
        self.assertEqual(part_text(tagged_site(most), "t", number), "\n".join(rows))
        self.assertEqual(part_text(number=number, tag="t", site=tagged_site(most)), "\n".join(rows))

    def test_one_part(self):
        self.told(5, 1, "<h1>t 1/1</h1>", row("b/b"), row("c"), row("d"), row("a"), row("e"))
        self.assertEqual(
            part_text(tagged_site(5), "u", 1), '<h1>u 1/1</h1>\n<li><a href="/g">G</a></li>')

    def test_a_first_a_middle_and_a_last_one(self):
        self.told(2, 1, "<h1>t 1/3</h1>", row("b/b"), row("c"), '<a href="/tag/t/2">behind</a>')
        self.told(
            2, 2, "<h1>t 2/3</h1>", row("d"), row("a"), '<a href="/tag/t">before</a>',
            '<a href="/tag/t/3">behind</a>',
        )
        self.told(2, 3, "<h1>t 3/3</h1>", row("e"), '<a href="/tag/t/2">before</a>')

    def test_a_first_and_a_last_one(self):
        self.told(4, 1, "<h1>t 1/2</h1>", row("b/b"), row("c"), row("d"), row("a"), '<a href="/tag/t/2">behind</a>')
        self.told(4, 2, "<h1>t 2/2</h1>", row("e"), '<a href="/tag/t">before</a>')


class PartReadsTest(unittest.TestCase):
    def test_in_order(self):
        site = tagged_site(2)
        self.assertEqual(
            repr(part_reads(site, "t", 2)),
            repr([
                (("part", "t", 2), (("d", "a"), 3)), (("title", "d"), 'd "<&>"'), (("title", "a"), 'a "<&>"'),
            ]),
        )
        self.assertEqual(
            part_reads(number=1, tag="u", site=site), [(("part", "u", 1), (("g",), 1)), (("title", "g"), "G")])

    def test_values_are_facts(self):
        for most in range(1, 7):
            site = tagged_site(most)
            for number in range(1, (5 + most - 1) // most + 1):
                for key, value in part_reads(site, "t", number):
                    self.assertEqual(repr(value), repr(fact(site, key)))

    def test_told_anew(self):
        site = tagged_site(2)
        was = part_reads(site, "t", 1)
        part_reads(site, "t", 1).clear()
        self.assertEqual(part_reads(site, "t", 1), was)


class NoPartTest(unittest.TestCase):
    def refused(self, tag, number):
        site = tagged_site(2)
        for asked in (part_text, part_reads):
            check_refused(self, NoPart, {"tag": tag, "number": number}, asked, site, tag, number)
            check_refused(self, NoPart, {"tag": tag, "number": number}, asked, number=number, site=site, tag=tag)
        self.assertEqual(state_of(site), state_of(tagged_site(2)))

    def test_numbers_below_and_beyond(self):
        for number in (0, -1, 4, 5, 10 ** 30, -3):
            self.refused("t", number)

    def test_tags_that_no_page_has(self):
        for tag in ("draft", "z", "tag"):
            for number in (0, 1, 2):
                self.refused(tag, number)

    def test_other_things(self):
        for thing in OTHER_THINGS:
            self.refused(thing, 1)
            if repr(thing) != "1":
                self.refused("t", thing)

    def test_kept_so_that_no_change_is_seen(self):
        for asked in (part_text, part_reads):
            tag, number = ["t"], [[1]]
            caught = check_refused(self, NoPart, {"tag": ["t"], "number": [[1]]}, asked, Site(), tag, number)
            tag.append("u")
            number[0].append(2)
            self.assertEqual((caught.tag, caught.number), (["t"], [[1]]))


if __name__ == "__main__":
    unittest.main()

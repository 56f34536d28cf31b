"""What [1] promises above all, over the whole program and rows of deeds by chance."""

import random
import re
import unittest

from checks import chance_layers, state_of
from makers import chance_row, chance_told_deed, deeds_to, maker_state
from pagemaker.facts import fact
from pagemaker.filling import against, page_text
from pagemaker.flat import made_flat
from pagemaker.links import broken
from pagemaker.made import made, reads_at
from pagemaker.maker import Maker
from pagemaker.papers import least_paper, shows_least, text_by
from pagemaker.sites import Site
from pagemaker.sitetext import site_in, site_text

NAMES, TAGS, PATHS = ("page", "a", "b", "c"), "tu", ("a", "b", "c/d", "e", "f")


def done(maker, deed):
    """Whether the deed is done, and not refused."""
    try:
        getattr(maker, deed[0])(*deed[1:])
        return True
    except Exception:
        return False


def makers(seed, many):
    """Makers of sites by chance, all made, each with what chance goes on with."""
    chance = random.Random(seed)
    for time in range(many):
        maker = Maker(today=2, most=2)
        maker.do(deeds_to(chance_layers(chance, NAMES, TAGS, PATHS)))
        maker.make()
        yield chance, maker


def some_deeds(chance, maker, many):
    """How many of some deeds by chance were done on the maker, undo among them now and then."""
    deeds = 0
    for step in range(many):
        deeds += done(maker, chance_told_deed(chance, NAMES, TAGS, PATHS, maker.site()))
    return deeds


class WholeTest(unittest.TestCase):
    def test_a_kept_is_the_site_made_afresh(self):
        for chance, maker in makers(1, 40):
            for time in range(6):
                some_deeds(chance, maker, chance.randrange(5))
                for step in range(chance.randrange(3)):
                    maker.undo()
                maker.make()
                self.assertEqual(maker.kept(), made(maker.site()))
                self.assertEqual(maker.kept(), made_flat(maker.site()))
                self.assertEqual(maker.kept(), made(site_in(site_text(maker.site()))))

    def test_b_built_anew_is_what_read_another_fact_and_a_paper_shows_it(self):
        changed = 0
        for chance, maker in makers(2, 40):
            for time in range(6):
                ahead = maker.site()
                was = {address: reads_at(ahead, address) for address, kind, text in made(ahead)}
                some_deeds(chance, maker, chance.randrange(4))
                behind = maker.site()
                paper = least_paper(ahead, behind)
                self.assertTrue(shows_least(ahead, behind, paper[::-1]))
                anew, gone = maker.make()
                self.assertEqual(anew, [(address, key) for address, key, old, new in paper])
                for address, kind, text in maker.kept():
                    others = [key for key, value in was.get(address, []) if fact(behind, key) != value]
                    expected = [(address, others[0] if others else None)] if others or address not in was else []
                    self.assertEqual([pair for pair in anew if pair[0] == address], expected)
                    self.assertEqual(text_by(address, reads_at(behind, address)), (kind, text))
                changed += len(anew)
        self.assertGreater(changed, 200)

    def test_d_each_link_that_leads_nowhere_and_no_other(self):
        many = 0
        for chance, maker in makers(4, 200):
            some_deeds(chance, maker, 6)
            site = maker.site()
            # No row of these sources has a link within what is strong.
            found = [
                (path, row, link.start(), link.group(1)) for path in sorted(site.pages())
                for row, text in enumerate(site.source(path)[6])
                for link in re.finditer(r"\[[^]]+\]\(([a-z/]+)\)", text) if site.lead(link.group(1)) is None
            ]
            self.assertEqual(broken(site), found)
            many += len(found)
        self.assertGreater(many, 40)

    def test_e_all_pages_against_which_nothing_stands_are_made(self):
        for chance, maker in makers(5, 40):
            some_deeds(chance, maker, 8)
            site = maker.site()
            kinds = {address: (kind, text) for address, kind, text in made(site)}
            for path in site.pages():
                fault = against(site, site.source(path)[4])
                if fault is None:
                    self.assertEqual(kinds["/" + path], ("page", page_text(site, path)))
                else:
                    what = fault[1] if isinstance(fault[1], list) else [str(fault[1])]
                    self.assertEqual(kinds["/" + path], ("fault", " ".join([fault[0]] + what)))

    def test_f_an_old_name_leads_on_in_one_step(self):
        for chance, maker in makers(6, 40):
            some_deeds(chance, maker, 8)
            site = maker.site()
            for address, kind, text in made(site):
                if kind == "moved":
                    led = re.fullmatch(r'<a href="/(.*)">moved</a>', text).group(1)
                    self.assertIn(led, site.pages())
                    self.assertIn(address[1:], site.source(led)[5])

    def test_g_whatever_is_refused_within_a_row(self):
        refused = 0
        for chance, maker in makers(7, 80):
            for time in range(4):
                deeds, whole = chance_row(chance, 3, NAMES, TAGS, PATHS), chance.randrange(2) == 0
                was, log = maker_state(maker), maker.log()
                try:
                    maker.do(deeds, whole=whole)
                except Exception:
                    refused += 1
                    if whole:
                        self.assertEqual(maker_state(maker), was)
                self.assertEqual(maker.depth(), 0)
                self.assertEqual(maker.log()[:len(log)], log)
                self.assertEqual((maker.log()[len(log)], maker.log()[-1]), (("in", 1), ("out", 1)))
                self.assertEqual(maker.log().count(("in", 2)), maker.log().count(("out", 2)))
                self.assertEqual(maker.do([]), [])
        self.assertGreater(refused, 80)

    def test_h_what_is_undone_is_as_if_it_had_never_been(self):
        for chance, maker in makers(8, 60):
            some_deeds(chance, maker, 3)
            was = maker_state(maker)
            for step in range(some_deeds(chance, maker, chance.randrange(6))):
                self.assertIs(maker.undo(), True)
            self.assertEqual(maker_state(maker), was)
            while maker.undo():
                pass
            self.assertEqual(state_of(maker.site()), state_of(Site(today=2, most=2)))

    def test_asking_changes_nothing(self):
        for chance, maker in makers(9, 20):
            some_deeds(chance, maker, 4)
            was, site = maker_state(maker), maker.site()
            state = state_of(site)
            for ask in (made, made_flat, broken, site_text):
                self.assertEqual(ask(site), ask(site))
            self.assertEqual(least_paper(site, maker.twin().site()), [])
            self.assertEqual((maker_state(maker), state_of(site)), (was, state))


if __name__ == "__main__":
    unittest.main()

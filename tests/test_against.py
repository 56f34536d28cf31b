import random
import unittest

from checks import chance_template, site_of
from pagemaker.filling import against
from pagemaker.sites import Site
from pagemaker.templates import calls_of


class AgainstTest(unittest.TestCase):
    def told(self, worth, name="a", **templates):
        site = site_of(templates)
        self.assertEqual(repr(against(site, name)), repr(worth), templates)
        self.assertEqual(repr(against(name=name, site=site)), repr(worth))


class NothingTest(AgainstTest):
    def test_nothing(self):
        self.told(None, a="")
        self.told(None, a="{body}{title}{to x}")
        self.told(None, a="in b\n{use c}", b="{inner}", c="")
        self.told(None, a="{use b}{use c}", b="in d\n", c="in d\n", d="")
        self.told(None, a="{pages t b}{pages t b}{body}", b="{title}{use c}", c="")

    def test_what_is_not_called_stands_not_against(self):
        self.told(None, a="{use b}", b="", c="{use none}{use c}", d="in d\n")


class NoneTest(AgainstTest):
    def test_the_name_itself(self):
        self.told(("none", ["a"]))
        self.told(("none", ["a"]), b="{use a}")

    def test_each_way_of_calling(self):
        self.told(("none", ["a", "z"]), a="in z\n")
        self.told(("none", ["a", "z"]), a="{use z}")
        self.told(("none", ["a", "z"]), a="{pages t z}")
        self.told(("none", ["a", "z"]), a="{when t}{when t}{use z}{done}{done}")

    def test_the_shortest(self):
        self.told(("none", ["a", "b", "z"]), a="{use b}", b="in c\n{use z}", c="{use y}", y="{use w}")
        self.told(("none", ["a", "z"]), a="{use b}{use z}", b="{use c}")
        self.told(("none", ["a", "b", "c", "d", "z"]), a="{use b}", b="in c\n", c="{pages t d}", d="{use z}")

    def test_of_several_the_first(self):
        self.told(("none", ["a", "y"]), a="{use z}{use y}")
        self.told(("none", ["a", "b", "z"]), a="{use c}{use b}", b="{use z}", c="{use d}")
        self.told(("none", ["a", "b", "y"]), a="{use c}{use b}", b="{use z}{use y}", c="{use x}")
        self.told(("none", ["a", "b", "d", "z"]), a="{use c}{use b}", b="{use d}", c="{use d}", d="in z\n")


class RingTest(AgainstTest):
    def test_each_way_of_calling(self):
        self.told(("ring", ["a", "a"]), a="in a\n")
        self.told(("ring", ["a", "a"]), a="{use a}")
        self.told(("ring", ["a", "a"]), a="{pages t a}")
        self.told(("ring", ["a", "a"]), a="{when t}{use a}{done}")
        self.told(("ring", ["a", "b", "c", "a"]), a="in b\n", b="{use c}", c="{pages t a}")

    def test_further_on(self):
        self.told(("ring", ["a", "b", "b"]), a="{use b}", b="in b\n")
        self.told(("ring", ["a", "b", "c", "b"]), a="{use b}", b="{use c}", c="{use b}")

    def test_the_shortest(self):
        self.told(("ring", ["a", "d", "d"]), a="{use b}{use d}", b="{use c}", c="{use a}", d="{use d}")
        self.told(("ring", ["a", "b", "a"]), a="{use b}", b="{use c}{use a}", c="{use c}")
        # The shorter way round lies further on, the longer one begins at once.
        self.told(
            ("ring", ["a", "e", "f", "f"]), a="{use b}{use e}", b="{use c}", c="{use d}", d="{use a}", e="{use f}",
            f="{use f}",
        )

    def test_of_several_the_first(self):
        self.told(("ring", ["a", "b", "a"]), a="{use c}{use b}", b="{use a}", c="{use a}")
        self.told(("ring", ["a", "b", "b"]), a="{use c}{use b}", b="in b\n", c="in c\n")
        self.told(("ring", ["a", "b", "a"]), a="{use b}", b="{use b}{use a}")
        self.told(("ring", ["b", "a", "b"]), name="b", a="{use b}", b="{use c}{use a}", c="{use b}")
        self.told(("ring", ["b", "c", "b"]), name="b", b="{use c}", c="{use b}{use c}")

    def test_behind_none(self):
        self.told(("none", ["a", "b", "c", "z"]), a="in a\n{use b}", b="{use c}", c="{use z}")


class DeepTest(AgainstTest):
    def test_a_body_and_a_pages(self):
        self.told(("deep", ["a", "b"]), a="{pages t b}", b="{body}")
        self.told(("deep", ["a", "b"]), a="{pages t b}", b="{pages t c}", c="")
        self.told(None, a="{pages t b}", b="{inner}{title}")
        self.told(None, a="{use b}{body}", b="{body}{pages t c}", c="")

    def test_within_when(self):
        self.told(("deep", ["a", "b"]), a="{when t}{pages t b}{done}", b="{when t}{when t}{body}{done}{done}")
        self.told(("deep", ["a", "b"]), a="{pages t b}", b="{when t}{pages t c}{done}", c="")

    def test_a_pages_anywhere_on_the_way(self):
        self.told(("deep", ["a", "b", "c", "d"]), a="{use b}", b="{pages t c}", c="in d\n", d="{body}")
        self.told(("deep", ["a", "b", "c", "d"]), a="{pages t b}", b="in c\n", c="{use d}", d="{body}")
        self.told(("deep", ["a", "b", "c"]), a="in b\n", b="{use c}{pages t c}", c="{body}")
        self.told(("deep", ["a", "b", "c"]), a="{use b}", b="{pages t c}", c="in d\n{body}", d="{body}")

    def test_a_call_that_can_be_a_pages(self):
        self.told(("deep", ["a", "b"]), a="{use b}{pages t b}", b="{body}")
        self.told(("deep", ["a", "b"]), a="in b\n{pages t b}", b="{body}")

    def test_the_shortest_by_way_of_a_pages(self):
        # The short road to d has no pages on it.
        self.told(("deep", ["a", "b", "c", "d"]), a="{use d}{use b}", b="{pages t c}", c="{use d}", d="{body}")
        self.told(("deep", ["a", "c"]), a="{pages t b}{pages t c}", b="{use d}", c="{body}", d="{body}")
        # The first names are one and the same, by way of a pages and not.
        self.told(("deep", ["a", "b", "d"]), a="{use b}{use c}", b="{use c}{pages t d}", c="", d="{body}")

    def test_of_several_the_first(self):
        self.told(("deep", ["a", "b"]), a="{pages t c}{pages t b}", b="{body}", c="{body}")
        self.told(("deep", ["a", "b", "d"]), a="{pages t c}{use b}", b="{pages t d}", c="{use d}", d="{body}")
        self.told(("deep", ["a", "c", "d"]), a="{pages t c}{use b}", b="{use d}", c="{use d}", d="{body}")

    def test_behind_none_and_ring(self):
        self.told(("none", ["a", "b", "c", "z"]), a="{pages t b}", b="{body}{use c}", c="{use z}")
        self.told(("ring", ["a", "b", "c", "c"]), a="{pages t b}", b="{body}{use c}", c="{use c}")
        self.told(("ring", ["a", "b", "a"]), a="{pages t b}", b="{pages t a}")


class MuchTest(AgainstTest):
    def test_just_twenty_four(self):
        # 1 + 1 + 11 * 2, and 1 + 12 * 2.
        self.told(None, a="in c\n" + "{use b}" * 11, b="{use c}", c="")
        self.told(("much", 25), a="{use b}" * 12, b="{use c}", c="")

    def test_all_kinds_of_calls_count(self):
        self.told(None, a="in b\n" + "{use c}" * 3, b="{use c}" * 4, c="in d\n", d="")
        self.told(("much", 25), a="in b\n" + "{pages t c}" * 6 + "{when t}" + "{use c}" * 5 + "{done}",
                  b="in d\n", c="in d\n", d="")

    def test_however_much(self):
        names = "abcdefgh"
        templates = {one: ("{use " + other + "}") * 12 for one, other in zip(names, names[1:])}
        self.told(("much", sum([12 ** at for at in range(8)])), **templates, h="")
        self.told(("much", 1 + 12 + 144), name="f", **templates, h="")
        self.told(None, name="g", **templates, h="")

    def test_behind_deep(self):
        self.told(("deep", ["a", "b", "c"]), a="{use b}" * 12, b="{use d}{pages t c}", c="{body}", d="")
        self.told(("none", ["a", "b", "c"]), a="{use b}" * 12, b="{use d}{pages t c}", d="")


def walks(site, name, most):
    """All roads of up to most names, the shorter ones first, of like ones the lesser."""
    told, ends = [], [[name]]
    for at in range(most):
        told.extend(sorted(ends))
        ends = [
            road + [other] for road in ends if road[-1] in site.names()
            for other in {other for word, other in calls_of(site.template(road[-1]))}
        ]
    return told


def against_again(site, name):
    """What against tells, by trying all roads one behind the other."""
    roads = walks(site, name, 7)
    by_pages = {
        (one, other) for one in site.names() for word, other in calls_of(site.template(one)) if word == "pages"
    }
    deep = {one for one in site.names() if "('field', 'body')" in repr(site.template(one))}
    deep |= {one for one, other in by_pages}
    none = [road for road in roads if road[-1] not in site.names()]
    ring = [road for road in roads if road[-1] in road[:-1]]
    deeps = [road for road in roads if road[-1] in deep and by_pages & set(zip(road, road[1:]))]
    for word, found in (("none", none), ("ring", ring), ("deep", deeps)):
        if found:
            return (word, found[0])

    def many(one):
        return 1 + sum([many(other) for word, other in calls_of(site.template(one))])
    return ("much", many(name)) if many(name) > 24 else None


class AgainTest(unittest.TestCase):
    def test_many_sites(self):
        chance = random.Random(11)
        words = {}
        for time in range(4000):
            names = "abcde"
            site = Site()
            # Calls go mostly from lesser to greater names, or nearly all sites would have a ring.
            for at, name in enumerate(names):
                onward = names[at + 1:] or "e"
                called = onward if chance.randrange(12) else names
                if chance.randrange(10) and (name != "e" or chance.randrange(3)):
                    site.hang(name, chance_template(chance, called, "tu", "xy"))
            if chance.randrange(6):
                site.hang("e", ("", ()))
            for name in names:
                told = against(site, name)
                self.assertEqual(repr(told), repr(against_again(site, name)))
                word = told if told is None else told[0]
                words[word] = words.get(word, 0) + 1
        for word in ("none", "ring", "deep", None):
            self.assertGreater(words[word], 300, words)

    def test_much(self):
        chance = random.Random(12)
        found = 0
        for time in range(1000):
            site = Site()
            for name, called in (("a", "bc"), ("b", "cd"), ("c", "de"), ("d", "e"), ("e", "")):
                pieces = tuple([("use", chance.choice(called)) for at in range(chance.randrange(5))]) if called else ()
                site.hang(name, ("", pieces))
            told = against(site, "a")
            self.assertEqual(told, against_again(site, "a"))
            found += told is not None
        self.assertTrue(100 < found < 900, found)


class OwnTest(unittest.TestCase):
    def test_told_anew(self):
        site = site_of({"a": "{use b}"})
        told = against(site, "a")
        told[1].clear()
        self.assertEqual(against(site, "a"), ("none", ["a", "b"]))


if __name__ == "__main__":
    unittest.main()

import random
import unittest

from checks import chance_layers, check_refused, state_of
from makers import SOURCES, WORDS, Model, chance_told_deed, deeds_to, full_maker, maker_state, sites_behind_undos
from pagemaker.errors import BadNumber, NoAddress, NoName, NoPath, Taken
from pagemaker.flat import made_flat
from pagemaker.made import made
from pagemaker.maker import Maker
from pagemaker.sites import Site
from pagemaker.sources import source_of
from pagemaker.templatetext import template_in
from things import OTHER_THINGS

SOURCE = source_of("S")
TEMPLATE = ("", (("field", "title"),))


def result_of(deed, *handed, **named):
    """What the deed tells, or the class and fields of its refusal."""
    try:
        return ("told", deed(*handed, **named))
    except Exception as error:
        return (type(error), repr(vars(error)))


def with_part(path, **parts):
    """The source there in the full Maker with these parts otherwise."""
    title, day, draft, tags, under, olds, rows = SOURCES[path]
    kept = {"title": title, "day": day, "draft": draft, "tags": tags, "under": under, "olds": olds, "rows": rows}
    return source_of(**{**kept, **parts})


class NewTest(unittest.TestCase):
    def test_bare(self):
        maker = Maker()
        self.assertEqual(maker_state(maker), ([state_of(Site())], 0, [], 0, ([], []), 0, []))
        self.assertEqual((maker.log(), maker.depth(), maker.undo()), ([], 0, False))
        self.assertEqual(maker.make(), ([], []))

    def test_today_and_most(self):
        maker = Maker(most=7, today=5)
        self.assertEqual((maker.site().today(), maker.site().most()), (5, 7))
        self.assertEqual((Maker(today=8).site().most(), Maker(most=1).site().today()), (4, 0))

    def test_by_their_names_alone(self):
        with self.assertRaises(TypeError):
            Maker(5)


class DeedsAsSitesTest(unittest.TestCase):
    """Each deed of a Maker beside the same one of a Site."""

    def both(self, word, *handed, **named):
        """Done or refused on both alike; a refused one leaves the Maker as it was."""
        was = maker_state(self.maker)
        result = result_of(getattr(self.maker, word), *handed, **named)
        self.assertEqual(result, result_of(getattr(self.site, word), *handed, **named), (word, handed, named))
        self.assertEqual(state_of(self.maker.site()), state_of(self.site))
        if result[0] == "told":
            self.assertIsNone(result[1])
            self.assertEqual(self.maker.deeds(), was[1] + 1)
            self.assertEqual(sites_behind_undos(self.maker)[1:], was[0])
        else:
            self.assertEqual(maker_state(self.maker), was)
        return result[0]

    def setUp(self):
        self.maker = full_maker()
        self.maker.make()
        self.site = self.maker.site()

    def test_done(self):
        for deed in (
            ("put", "x/y", SOURCE), ("put", "a", SOURCE), ("drop", "a"), ("move", "b", "g/h"), ("hang", "new", TEMPLATE),
            ("hang", "page", TEMPLATE), ("unhang", "page"), ("set_today", 0), ("set_today", 999), ("set_most", 9),
        ):
            self.assertEqual(self.both(*deed), "told")

    def test_by_names(self):
        for word, named in (
            ("put", {"source": SOURCE, "path": "x"}), ("drop", {"path": "a"}), ("move", {"to": "y", "path": "x"}),
            ("hang", {"template": TEMPLATE, "name": "new"}), ("unhang", {"name": "new"}), ("set_today", {"day": 3}),
            ("set_most", {"many": 2}),
        ):
            self.assertEqual(self.both(word, **named), "told")

    def test_refused_of_any_thing(self):
        for thing in OTHER_THINGS + ("zz", "tag", ["a"], ("a",), "a/b/c/d"):
            for deed in (
                ("drop", thing), ("unhang", thing), ("move", thing, "z"), ("put", "z", thing), ("hang", "z", thing),
            ):
                self.assertNotEqual(self.both(*deed), "told", deed)
        for thing in OTHER_THINGS + ("tag", ["a"], ("a",), "a/b/c/d"):
            for deed in (("put", thing, SOURCE), ("move", "a", thing)):
                self.assertNotEqual(self.both(*deed), "told", deed)
            if thing != "tag":
                self.assertNotEqual(self.both("hang", thing, TEMPLATE), "told", thing)
        for thing in OTHER_THINGS + (1000, -1, "1"):
            if thing not in (0, 1, 7) or isinstance(thing, bool):
                self.assertEqual(self.both("set_today", thing), BadNumber)
                self.assertEqual(self.both("set_most", thing), BadNumber)
        for thing in (0, 10):
            self.assertEqual(self.both("set_most", thing), BadNumber)

    def test_refused_by_what_is_there(self):
        self.assertEqual(self.both("move", "a", "b"), Taken)
        self.assertEqual(self.both("move", "a", "a"), Taken)
        for at, to in enumerate("fghijkl"):
            self.both("move", "abcdefghijkl"[4 + at] if at else "a", to)
        self.assertEqual(self.both("drop", "a"), NoPath)
        for path in "abcdefghijklmnop":
            self.both("put", path, SOURCE)
        for name in "abcdefghij":
            self.both("hang", name, TEMPLATE)
        self.assertEqual((len(self.site), len(self.site.names())), (12, 8))
        self.assertEqual(self.both("unhang", "zz"), NoName)

    def test_each_part_of_a_source(self):
        wrong = (" a", True, 0, ("b", "a"), "", ["a"], ("a\n",))
        for at, thing in enumerate(wrong):
            self.assertNotEqual(self.both("put", "a", SOURCE[:at] + (thing,) + SOURCE[at + 1:]), "told")


class UndoTest(unittest.TestCase):
    def test_the_last_one_first(self):
        maker = Maker()
        deeds = [
            ("put", "a", SOURCE), ("hang", "page", TEMPLATE), ("move", "a", "b"), ("set_today", 5), ("set_most", 2),
            ("put", "b", source_of("T")), ("hang", "page", ("", ())), ("unhang", "page"), ("drop", "b"),
        ]
        states = [state_of(maker.site())]
        for many, deed in enumerate(deeds):
            self.assertEqual(maker.deeds(), many)
            getattr(maker, deed[0])(*deed[1:])
            states.append(state_of(maker.site()))
        for many in range(len(deeds), 0, -1):
            self.assertEqual(maker.deeds(), many)
            self.assertEqual(state_of(maker.site()), states[many])
            self.assertIs(maker.undo(), True)
        self.assertEqual((maker.deeds(), state_of(maker.site())), (0, states[0]))
        self.assertIs(maker.undo(), False)
        self.assertEqual((maker.deeds(), state_of(maker.site())), (0, states[0]))

    def test_a_deed_that_changes_nothing_can_be_undone(self):
        maker = Maker(today=3)
        maker.set_today(3)
        maker.put("a", SOURCE)
        maker.put("a", SOURCE)
        self.assertEqual(maker.deeds(), 3)
        self.assertEqual([maker.undo(), maker.site().paths()], [True, ["a"]])
        self.assertEqual([maker.undo(), maker.site().paths()], [True, []])
        self.assertEqual([maker.undo(), maker.undo()], [True, False])

    def test_a_refused_one_cannot(self):
        maker = Maker()
        maker.put("a", SOURCE)
        check_refused(self, NoPath, {"path": "b"}, maker.drop, "b")
        self.assertEqual(maker.deeds(), 1)
        self.assertEqual([maker.undo(), maker.undo(), maker.site().paths()], [True, False, []])

    def test_another_deed_behind_an_undo(self):
        maker = Maker()
        for path in "abc":
            maker.put(path, SOURCE)
        maker.undo()
        maker.undo()
        maker.put("d", SOURCE)
        self.assertEqual((maker.deeds(), maker.site().paths()), (2, ["a", "d"]))
        maker.undo()
        self.assertEqual((maker.deeds(), maker.site().paths()), (1, ["a"]))

    def test_make_is_neither_undone_nor_counted(self):
        maker = full_maker()
        many = maker.deeds()
        maker.make()
        kept, built = maker.kept(), maker.built()
        maker.put("a", with_part("a", title="New"))
        maker.undo()
        self.assertEqual((maker.deeds(), maker.kept(), maker.built(), maker.stale()), (many, kept, built, ([], [])))

    def test_undone_behind_a_make(self):
        maker = full_maker()
        maker.make()
        kept = maker.kept()
        maker.put("a", with_part("a", title="New"))
        maker.make()
        self.assertNotEqual(maker.kept(), kept)
        maker.undo()
        self.assertNotEqual(maker.kept(), kept)
        self.assertEqual([key for address, key in maker.make()[0]], [("title", "a")] * 3)
        self.assertEqual(maker.kept(), kept)

    def test_a_hundred_and_twenty(self):
        maker = Maker()
        for many in range(60):
            maker.put("a", source_of("T", day=many))
            maker.set_today(many)
        self.assertEqual(maker.deeds(), 120)
        maker.make()
        for many in range(59, -1, -1):
            self.assertEqual((maker.site().source("a")[1], maker.site().today()), (many, many))
            self.assertEqual([maker.undo(), maker.undo()], [True, True])
        self.assertEqual((maker.deeds(), maker.undo(), state_of(maker.site())), (0, False, state_of(Site())))
        self.assertEqual(maker.make(), ([], ["/a"]))


class MakeTest(unittest.TestCase):
    def setUp(self):
        self.maker = full_maker()

    def changed(self, *deeds):
        """What make tells behind the deeds of a Maker that had made all ahead of them; all else is checked, too."""
        maker = full_maker()
        maker.make()
        was, built = {address: pair for address, *pair in maker.kept()}, maker.built()
        for deed in deeds:
            getattr(maker, deed[0])(*deed[1:])
        stale = maker.stale()
        self.assertEqual(list(was), [address for address, kind, text in maker.kept()])
        anew, gone = told = maker.make()
        self.assertEqual(stale, told)
        self.assertIsInstance(told, tuple)
        self.assertEqual(maker.kept(), made(maker.site()))
        self.assertEqual(maker.kept(), made_flat(maker.site()))
        self.assertEqual(maker.built(), built + len(anew))
        self.assertEqual((maker.stale(), maker.make()), (([], []), ([], [])))
        for address, *pair in maker.kept():
            if address not in dict(anew):
                self.assertEqual(was[address], pair)
        return told

    def test_the_first_one(self):
        addresses = ["/a", "/aold", "/b", "/c", "/tag/t", "/tag/t/2", "/tag/u", "/tag/v"]
        self.assertEqual((self.maker.kept(), self.maker.built()), ([], 0))
        self.assertEqual(self.maker.stale(), ([(address, None) for address in addresses], []))
        self.assertEqual((self.maker.kept(), self.maker.built()), ([], 0))
        self.assertEqual(self.maker.make(), ([(address, None) for address in addresses], []))
        self.assertEqual(self.maker.built(), 8)
        self.assertEqual(self.maker.kept(), made(self.maker.site()))
        self.assertEqual([address for address, kind, text in self.maker.kept()], addresses)
        self.assertEqual(self.maker.page("/a"), ("page", "/c(<A>B;A;)"))
        self.assertEqual(self.maker.page(address="/aold"), ("moved", '<a href="/a">moved</a>'))

    def test_nothing(self):
        self.assertEqual(self.changed(), ([], []))

    def test_a_title(self):
        self.assertEqual(
            self.changed(("put", "a", with_part("a", title="New"))),
            ([("/a", ("title", "a")), ("/b", ("title", "a")), ("/tag/t/2", ("title", "a"))], []),
        )
        self.assertEqual(self.changed(("put", "c", with_part("c", title="New"))), ([("/tag/v", ("title", "c"))], []))

    def test_a_day_that_is_read(self):
        self.assertEqual(self.changed(("put", "b", with_part("b", day=5))), ([("/b", ("day", "b"))], []))

    def test_a_day_that_is_not_read(self):
        self.assertEqual(self.changed(("put", "a", with_part("a", day=2))), ([], []))

    def test_a_day_by_which_pages_stand_otherwise(self):
        self.assertEqual(
            self.changed(("put", "a", with_part("a", day=5))),
            ([("/a", ("tag", "t")), ("/b", ("tag", "t")), ("/tag/t", ("part", "t", 1)),
              ("/tag/t/2", ("part", "t", 2))], []),
        )

    def test_a_day_above_today(self):
        self.assertEqual(
            self.changed(("put", "b", with_part("b", day=10))),
            ([("/a", ("tag", "t")), ("/tag/t", ("part", "t", 1))], ["/b", "/tag/t/2", "/tag/u"]),
        )

    def test_a_tag_more(self):
        self.assertEqual(
            self.changed(("put", "a", with_part("a", tags=("t", "v")))),
            ([("/a", ("tags", "a")), ("/tag/v", ("part", "v", 1)), ("/tag/v/2", None)], []),
        )
        self.assertEqual(self.changed(("put", "c", with_part("c", tags=("v", "w")))), ([("/tag/w", None)], []))

    def test_a_tag_less(self):
        self.assertEqual(
            self.changed(("put", "b", with_part("b", tags=("t",)))), ([("/b", ("tags", "b"))], ["/tag/u"]))

    def test_rows(self):
        self.assertEqual(self.changed(("put", "b", with_part("b", rows=("x",)))), ([("/b", ("rows", "b"))], []))
        self.assertEqual(self.changed(("put", "c", with_part("c", rows=("x",)))), ([], []))

    def test_a_draft(self):
        self.assertEqual(self.changed(("put", "c", with_part("c", draft=True))), (
            [("/a", ("lead", "c")), ("/b", ("lead", "c"))], ["/c", "/tag/v"]))
        self.assertEqual(self.changed(("put", "d", with_part("d", title="New"))), ([], []))

    def test_olds(self):
        self.assertEqual(self.changed(("put", "a", with_part("a", olds=("new",)))), ([("/new", None)], ["/aold"]))
        self.assertEqual(
            self.changed(("put", "b", with_part("b", olds=("aold", "z")))),
            ([("/aold", ("lead", "aold")), ("/b", ("lead", "z")), ("/z", None)], []),
        )

    def test_under(self):
        self.assertEqual(self.changed(("put", "a", with_part("a", under="other"))), ([("/a", ("under", "a"))], []))

    def test_a_template_that_is_used(self):
        for name, key in (("page", "page"), ("frame", "frame"), ("item", "item")):
            told = self.changed(("hang", name, TEMPLATE))
            self.assertEqual(told, ([("/a", ("template", key)), ("/b", ("template", key))], []))
        self.assertEqual(self.changed(("unhang", "item")), (
            [("/a", ("template", "item")), ("/b", ("template", "item"))], []))
        self.assertEqual(self.changed(("hang", "other", TEMPLATE)), ([("/c", ("template", "other"))], []))

    def test_a_template_that_is_not_used(self):
        for deed in (("hang", "spare", TEMPLATE), ("unhang", "spare"), ("hang", "new", TEMPLATE)):
            self.assertEqual(self.changed(deed), ([], []))

    def test_the_first_of_several_facts(self):
        self.assertEqual(
            self.changed(("put", "a", with_part("a", title="New", under="other")), ("hang", "frame", TEMPLATE)),
            ([("/a", ("under", "a")), ("/b", ("template", "frame")), ("/tag/t/2", ("title", "a"))], []),
        )
        self.assertEqual(
            self.changed(("hang", "item", TEMPLATE), ("hang", "page", TEMPLATE))[0],
            [("/a", ("template", "page")), ("/b", ("template", "page"))],
        )

    def test_a_fault_and_back(self):
        told = self.changed(("hang", "other", template_in("in -\n{use other}")))
        self.assertEqual(told, ([("/c", ("template", "other"))], []))
        self.maker.hang("other", template_in("in -\n{use gone}"))
        self.maker.make()
        self.assertEqual(self.maker.page("/c"), ("fault", "none other gone"))
        self.maker.hang("gone", template_in("in -\n{path}"))
        self.assertEqual(self.maker.make(), ([("/c", ("template", "gone"))], []))
        self.assertEqual(self.maker.page("/c"), ("page", "c"))

    def test_the_parts_size(self):
        self.assertEqual(
            self.changed(("set_most", 2)), ([("/tag/t", ("part", "t", 1))], ["/tag/t/2"]))
        self.assertEqual(self.changed(("set_most", 1)), ([], []))

    def test_the_day(self):
        self.assertEqual(
            self.changed(("set_today", 10)),
            ([("/a", ("tag", "t")), ("/b", ("tag", "t")), ("/e", None), ("/tag/t", ("part", "t", 1)),
              ("/tag/t/2", ("part", "t", 2)), ("/tag/t/3", None)], []),
        )
        self.assertEqual(self.changed(("set_today", 8)), ([], []))
        self.assertEqual(self.changed(("set_today", 0)), (
            [], ["/a", "/aold", "/b", "/c", "/tag/t", "/tag/t/2", "/tag/u", "/tag/v"]))

    def test_a_path_moved(self):
        self.assertEqual(
            self.changed(("move", "c", "f")),
            ([("/a", ("lead", "c")), ("/b", ("lead", "c")), ("/c", ("under", "c")), ("/f", None),
              ("/tag/v", ("part", "v", 1))], []),
        )
        self.assertEqual(
            self.changed(("move", "a", "aold")),
            ([("/a", ("under", "a")), ("/aold", ("lead", "aold")), ("/b", ("tag", "t")),
              ("/tag/t/2", ("part", "t", 2))], []),
        )

    def test_the_same_source_put_again(self):
        self.assertEqual(self.changed(("put", "a", SOURCES["a"]), ("hang", "spare", TEMPLATE)), ([], []))

    def test_a_change_and_its_way_back(self):
        other = with_part("a", title="New", tags=("w",))
        self.assertEqual(self.changed(("put", "a", other), ("put", "a", SOURCES["a"])), ([], []))
        self.assertEqual(self.changed(("put", "a", other), ("undo",)), ([], []))
        self.assertEqual(self.changed(("drop", "a"), ("put", "a", SOURCES["a"])), ([], []))
        self.assertEqual(self.changed(("set_today", 0), ("set_today", 9)), ([], []))

    def test_a_way_back_behind_a_make(self):
        self.maker.make()
        self.maker.put("c", with_part("c", title="New"))
        self.maker.make()
        self.maker.put("c", SOURCES["c"])
        self.assertEqual(self.maker.make(), ([("/tag/v", ("title", "c"))], []))
        self.assertEqual(self.maker.built(), 10)

    def test_by_the_reads_with_which_it_was_built_last(self):
        # Once a page no longer lists, titles of others are nothing to it.
        self.maker.make()
        self.maker.hang("page", template_in("in -\n{path}"))
        self.maker.make()
        self.maker.put("a", with_part("a", title="New"))
        self.assertEqual(self.maker.make(), ([("/tag/t/2", ("title", "a"))], []))

    def test_what_is_gone_and_comes_again_is_new(self):
        self.maker.make()
        self.maker.drop("c")
        self.maker.make()
        self.maker.undo()
        self.assertEqual(self.maker.make()[0], [
            ("/a", ("lead", "c")), ("/b", ("lead", "c")), ("/c", None), ("/tag/v", None)])

    def test_a_page_in_the_place_of_a_moved_one(self):
        self.assertEqual(
            self.changed(("put", "aold", source_of("New", under="other"))), ([("/aold", ("lead", "aold"))], []))

    def test_told_anew(self):
        self.maker.make()
        self.maker.put("c", with_part("c", title="New"))
        self.maker.stale()[0].clear()
        self.maker.kept().clear()
        self.maker.log().append(1)
        self.assertEqual(self.maker.stale(), ([("/tag/v", ("title", "c"))], []))
        self.assertEqual((len(self.maker.kept()), self.maker.log()), (8, []))
        told = self.maker.make()
        told[0].clear()
        told[1].append("/a")
        self.assertEqual(self.maker.stale(), ([], []))


class PageTest(unittest.TestCase):
    def test_kept_not_as_the_site_is(self):
        maker = full_maker()
        check_refused(self, NoAddress, {"address": "/a"}, maker.page, "/a")
        maker.make()
        was = maker.page("/a")
        maker.drop("a")
        self.assertEqual(maker.page("/a"), was)
        maker.make()
        check_refused(self, NoAddress, {"address": "/a"}, maker.page, address="/a")
        for address, kind, text in maker.kept():
            self.assertEqual(repr(maker.page(address)), repr((kind, text)))

    def test_no_address(self):
        maker = full_maker()
        maker.make()
        was = maker_state(maker)
        for thing in OTHER_THINGS + ("a", "/", "/z", "/e", "/tag/t/1", "/tag/t/3", ["/a"], ("/a",), "/a ", "/a\n"):
            check_refused(self, NoAddress, {"address": thing}, maker.page, thing)
        self.assertEqual(maker_state(maker), was)

    def test_kept_so_that_no_change_is_seen(self):
        thing = ["/a"]
        caught = check_refused(self, NoAddress, {"address": ["/a"]}, Maker().page, thing)
        thing.append("b")
        self.assertEqual(caught.address, ["/a"])


class ApartTest(unittest.TestCase):
    def test_site(self):
        maker = full_maker()
        site = maker.site()
        self.assertIsInstance(site, Site)
        self.assertEqual(site, maker.site())
        was = maker_state(maker)
        site.drop("a")
        site.unhang("page")
        site.set_today(1)
        self.assertEqual(maker_state(maker), was)
        held = maker.site()
        maker.drop("a")
        self.assertIn("a", held.paths())

    def test_twin(self):
        maker = full_maker()
        maker.make()
        maker.do([("drop", "a"), ("drop", "c")])
        twin = maker.twin()
        self.assertIsInstance(twin, Maker)
        self.assertEqual(maker_state(twin), maker_state(maker))
        self.assertEqual((twin.log(), twin.depth(), maker.log()), ([], 0, [("in", 1), ("out", 1)]))
        self.assertEqual(twin.stale(), maker.stale())

    def test_a_change_of_one_of_two(self):
        deeds = (("put", "n", SOURCE), ("undo",), ("make",), ("set_today", 1), ("unhang", "page"), ("make",), ("do", []))
        for one, other in ((0, 1), (1, 0)):
            maker = full_maker()
            maker.make()
            maker.drop("a")
            both = (maker, maker.twin())
            was, log = maker_state(both[other]), both[other].log()
            for deed in deeds:
                getattr(both[one], deed[0])(*deed[1:])
                self.assertEqual((maker_state(both[other]), both[other].log()), (was, log))
            self.assertNotEqual(maker_state(both[one]), was)

    def test_a_twin_of_a_bare_one(self):
        twin = Maker(today=3, most=2).twin()
        self.assertEqual(maker_state(twin), maker_state(Maker(today=3, most=2)))


class ChanceTest(unittest.TestCase):
    """A Maker beside its second telling over rows of deeds by chance."""

    NAMES, TAGS, PATHS = ("page", "a", "b"), "tu", ("a", "b", "c/d", "e", "f")

    def test_rows_of_deeds(self):
        chance = random.Random(20)
        kinds = []
        for time in range(40):
            maker, model = Maker(today=2, most=2), Model(2, 2)
            first = deeds_to(chance_layers(chance, self.NAMES, self.TAGS, self.PATHS))
            for step in range(50):
                deed = chance_told_deed(chance, self.NAMES, self.TAGS, self.PATHS, maker.site())
                choice = chance.randrange(6)
                deed = ("make",) if choice == 0 else ("undo",) if choice == 1 else deed
                deed = first[step] if step < len(first) else deed
                result = result_of(getattr(maker, deed[0]), *deed[1:])
                self.assertEqual(result, result_of(model.deed, deed))
                self.assertEqual(maker_state(maker), model.state())
                if deed == ("make",):
                    self.assertEqual(maker.kept(), made(maker.site()))
                    self.assertEqual(maker.kept(), made_flat(maker.site()))
                    kinds.extend(key and key[0] for address, key in result[1][0])
        for kind in (None, "title", "day", "tags", "under", "rows", "template", "tag", "lead", "part"):
            self.assertIn(kind, kinds)

    def test_what_is_undone_is_as_if_it_had_never_been(self):
        chance = random.Random(21)
        for time in range(40):
            maker = Maker(today=2, most=2)
            for step in range(25):
                deed = chance_told_deed(chance, self.NAMES, self.TAGS, self.PATHS)
                result_of(getattr(maker, deed[0]), *deed[1:])
            maker.make()
            was = maker_state(maker)
            done = 0
            for step in range(chance.randrange(1, 6)):
                deed = chance_told_deed(chance, self.NAMES, self.TAGS, self.PATHS)
                done += result_of(getattr(maker, deed[0]), *deed[1:])[0] == "told"
            for step in range(done):
                self.assertTrue(maker.undo())
            self.assertEqual(maker_state(maker), was)

    def test_all_words_of_a_sites_deeds(self):
        self.assertEqual(WORDS, ("put", "drop", "move", "hang", "unhang", "set_today", "set_most"))
        for word in WORDS + ("undo", "deeds", "make", "stale", "kept", "page", "built", "site", "twin", "do", "depth",
                             "log"):
            self.assertIn(word, vars(Maker))


if __name__ == "__main__":
    unittest.main()

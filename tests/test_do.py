import random
import unittest

from checks import chance_layers, check_refused, state_of
from makers import Model, chance_row, deeds_to, full_maker, maker_state
from pagemaker.deeds import do_on
from pagemaker.errors import (
    BadDeed, BadName, BadNumber, BadPath, BadSource, BadTemplate, NoName, NoPath, Taken, TooMany,
)
from pagemaker.made import made
from pagemaker.maker import Maker
from pagemaker.sites import Site
from pagemaker.sources import source_of
from things import OTHER_THINGS

SOURCE, TEMPLATE = source_of("S"), ("", (("field", "title"),))
PUT, DROP = ("put", "n", SOURCE), ("drop", "a")
# A deed of each kind that is refused on the full Maker, and with what.
REFUSED = (
    (("put", "tag", SOURCE), BadPath, {"path": "tag"}),
    (("put", "n", None), BadSource, {"part": "tuple"}),
    (("drop", "z"), NoPath, {"path": "z"}),
    (("drop", [1]), NoPath, {"path": [1]}),
    (("move", "z", "b"), NoPath, {"path": "z"}),
    (("move", "b", 5), BadPath, {"path": 5}),
    (("move", "b", "c"), Taken, {"path": "c"}),
    (("hang", "A", TEMPLATE), BadName, {"name": "A"}),
    (("hang", "page", ()), BadTemplate, {"name": "page"}),
    (("unhang", None), NoName, {"name": None}),
    (("set_today", 1000), BadNumber, {"number": 1000}),
    (("set_most", True), BadNumber, {"number": True}),
)


def in_rows(*depths):
    """Log entries: a depth opens a row, its negative closes it."""
    return [("in", depth) if depth > 0 else ("out", -depth) for depth in depths]


class DoTest(unittest.TestCase):
    def setUp(self):
        self.maker = full_maker()
        self.maker.make()
        self.log = []

    def done(self, told, deeds, log, **named):
        """The deeds are done, and tell that; the log has these rows more."""
        self.assertEqual(repr(self.maker.do(deeds, **named)), repr(told))
        self.check_log(log)

    def check_log(self, log):
        self.log.extend(in_rows(*log))
        self.assertEqual((self.maker.log(), self.maker.depth()), (self.log, 0))

    def refused(self, error, fields, deeds, log, **named):
        check_refused(self, error, fields, self.maker.do, deeds, **named)
        self.check_log(log)

    def test_none(self):
        was = maker_state(self.maker)
        self.done([], [], (1, -1))
        self.done([], [], (1, -1), whole=False)
        self.assertEqual(self.maker.do(whole=True, deeds=[]), [])
        self.assertEqual(maker_state(self.maker), was)

    def test_whole_by_its_name_alone(self):
        with self.assertRaises(TypeError):
            self.maker.do([], True)

    def test_each_word(self):
        twin = self.maker.twin()
        deeds = [
            ("put", "n", SOURCE), ("drop", "a"), ("move", "n", "m"), ("hang", "new", TEMPLATE), ("unhang", "spare"),
            ("set_today", 10), ("set_most", 3),
        ]
        self.done([None] * 7, deeds, (1, -1))
        for word, *handed in deeds:
            getattr(twin, word)(*handed)
        self.assertEqual(maker_state(self.maker), maker_state(twin))
        self.assertEqual(self.maker.deeds(), full_maker().deeds() + 7)

    def test_undo_and_make(self):
        many = self.maker.deeds()
        told = self.maker.do([
            ("put", "c", source_of("New", day=1, under="other", tags=("v",))), ("make",), ("undo",), ("make",), PUT,
            ("undo",), ("make",),
        ])
        change = ([("/tag/v", ("title", "c"))], [])
        self.assertEqual(told, [None, change, True, change, None, True, ([], [])])
        self.assertEqual((self.maker.deeds(), self.maker.built()), (many, 10))
        self.assertEqual(self.maker.kept(), made(self.maker.site()))

    def test_undo_of_what_was_done_ahead_and_of_none(self):
        maker = Maker()
        maker.put("a", SOURCE)
        self.assertEqual(maker.do([("undo",), ("undo",), PUT, ("undo",), ("undo",)]), [True, False, None, True, False])
        self.assertEqual((maker.deeds(), state_of(maker.site())), (0, state_of(Site())))

    def test_each_deed_is_undone_by_itself(self):
        maker = Maker()
        maker.do([("put", "a", SOURCE), ("do", [("put", "b", SOURCE), ("put", "c", SOURCE)], True)])
        self.assertEqual(maker.deeds(), 3)
        self.assertEqual([maker.undo(), maker.site().paths()], [True, ["a", "b"]])
        self.assertEqual([maker.undo(), maker.site().paths()], [True, ["a"]])

    def test_rows_within_rows(self):
        self.done(
            [None, [[None, True], None], [], True],
            [PUT, ("do", [("do", [DROP, ("undo",)], True), DROP], False), ("do", [], True), ("undo",)],
            (1, 2, 3, -3, -2, 2, -2, -1),
        )
        self.assertEqual(self.maker.site().paths(), ["a", "b", "c", "d", "e", "n"])

    def test_twenty_deeds(self):
        deeds = [("put", "n", source_of("T", day=many)) for many in range(20)]
        many = self.maker.deeds()
        self.done([None] * 20, deeds, (1, -1))
        self.assertEqual((self.maker.deeds(), self.maker.site().source("n")[1]), (many + 20, 19))

    def test_a_hundred_and_twenty_standing_ones(self):
        maker = Maker()
        for row in range(6):
            maker.do([("set_today", row * 20 + many) for many in range(20)])
        self.assertEqual(maker.deeds(), 120)
        check_refused(self, NoPath, {"path": "n"}, maker.do, [("undo",)] * 19 + [("drop", "n")])
        self.assertEqual((maker.deeds(), maker.site().today()), (120, 119))
        for row in range(6):
            self.assertEqual(maker.do([("undo",)] * 20), [True] * 20)
        self.assertEqual((maker.deeds(), maker.site().today(), maker.undo()), (0, 0, False))

    def test_one_refused_at_each_place(self):
        deeds = [
            PUT, ("make",), DROP, ("undo",), ("undo",), ("undo",), ("set_today", 10), ("make",), ("hang", "n", TEMPLATE),
        ]
        for deed, error, fields in REFUSED:
            for at in range(len(deeds) + 1):
                row = deeds[:at] + [deed] + deeds[at:]
                for whole in (True, False):
                    self.setUp()
                    was, rest = maker_state(self.maker), self.maker.twin()
                    handed = repr(row)
                    self.refused(error, fields, row, (1, -1), whole=whole)
                    self.assertEqual(repr(row), handed)
                    if not whole:
                        for word, *things in deeds[:at]:
                            getattr(rest, word)(*things)
                        was = maker_state(rest)
                    self.assertEqual(maker_state(self.maker), was)

    def test_whole_where_it_is_left_out(self):
        was = maker_state(self.maker)
        self.refused(NoPath, {"path": "z"}, [PUT, ("make",), ("drop", "z")], (1, -1))
        self.assertEqual(maker_state(self.maker), was)

    def test_too_many(self):
        was = maker_state(self.maker)
        row = [("put", path, SOURCE) for path in "fghijklm"]
        self.refused(TooMany, {"many": 12}, row, (1, -1))
        self.assertEqual(maker_state(self.maker), was)
        self.refused(TooMany, {"many": 12}, row, (1, -1), whole=False)
        self.assertEqual(len(self.maker.site()), 12)

    def test_refused_within_rows(self):
        """Of the outer row, the row within and the deeds ahead of it in each what stays, by whole of both."""
        for outer, inner, stays in (
            (True, True, ""), (True, False, ""), (False, True, "n"), (False, False, "no"),
        ):
            self.setUp()
            row = [PUT, ("do", [("put", "o", SOURCE), ("make",), ("drop", "z"), DROP], inner), DROP]
            self.refused(NoPath, {"path": "z"}, row, (1, 2, -2, -1), whole=outer)
            self.assertEqual(self.maker.site().paths(), list("abcde" + stays))
            self.assertEqual(self.maker.deeds(), full_maker().deeds() + len(stays))
            self.assertEqual("/o" in [address for address, kind, text in self.maker.kept()], stays == "no")
            self.assertEqual(self.maker.built(), 10 if stays == "no" else 8)

    def test_refused_three_deep(self):
        for wholes in range(8):
            one, two, three = wholes & 1 > 0, wholes & 2 > 0, wholes & 4 > 0
            self.setUp()
            deeds = [("put", "o", SOURCE), ("do", [("put", "p", SOURCE), ("drop", "z")], three), DROP]
            self.refused(
                NoPath, {"path": "z"}, [PUT, ("do", [], True), ("do", deeds, two), DROP], (1, 2, -2, 2, 3, -3, -2, -1),
                whole=one,
            )
            stays = "" if one else "n" if two else "no" if three else "nop"
            self.assertEqual(self.maker.site().paths(), list("abcde" + stays))

    def test_the_maker_is_open_behind_a_refusal(self):
        self.refused(NoPath, {"path": "z"}, [("do", [("do", [("drop", "z")], True)], True)], (1, 2, 3, -3, -2, -1))
        self.done([None, [None]], [PUT, ("do", [DROP], True)], (1, 2, -2, -1))
        self.assertIs(self.maker.undo(), True)
        self.maker.make()
        self.assertEqual(self.maker.kept(), made(self.maker.site()))

    def test_log_is_not_put_back_and_told_anew(self):
        self.refused(NoPath, {"path": "z"}, [("do", [PUT], True), ("drop", "z")], (1, 2, -2, -1))
        self.maker.undo()
        self.maker.log().clear()
        self.check_log(())
        self.assertEqual(self.maker.twin().log(), [])
        self.check_log(())

    def test_nothing_handed_in_is_changed_or_kept(self):
        within = [PUT, ("make",)]
        deeds = [("do", within, True), DROP]
        told = self.maker.do(deeds)
        self.assertEqual((deeds, within), ([("do", [PUT, ("make",)], True), DROP], [PUT, ("make",)]))
        state = maker_state(self.maker)
        within.clear()
        deeds.clear()
        told[0][1][0].clear()
        told.clear()
        self.assertEqual(maker_state(self.maker), state)

    def test_no_two_told_lists_are_one(self):
        told = self.maker.do([("make",), ("make",), ("do", [], True), ("do", [], True)])
        lists = [told, told[0][0], told[0][1], told[1][0], told[1][1], told[2], told[3]]
        self.assertEqual(len({id(one) for one in lists}), len(lists))

    def test_a_refusal_keeps_no_list_that_was_handed_in(self):
        thing = ["x"]
        caught = check_refused(self, NoPath, {"path": ["x"]}, self.maker.do, [("drop", thing)])
        thing.append("y")
        self.assertEqual(caught.path, ["x"])


class BadDeedTest(unittest.TestCase):
    NO_DEEDS = OTHER_THINGS + (
        ("Put", "a", SOURCE), ("pages",), ("kept",), ("site",), ("stale",), ("log",), ("deeds",), ("twin",), ("step", ()),
        ("put",), ("put", "a"), ("put", "a", SOURCE, 1), ("drop",), ("drop", "a", "b"), ("move", "a"),
        ("move", "a", "b", "c"), ("hang", "a"), ("hang", "a", TEMPLATE, TEMPLATE), ("unhang",), ("unhang", "a", "b"),
        ("set_today",), ("set_today", 1, 2), ("set_most",), ("set_most", 1, 2), ("undo", 1), ("undo", None),
        ("make", None), ("make", ()), ["make"], ["undo"], ["drop", "a"], ["put", "a", SOURCE], "make", "undo",
        (["put"], "a", SOURCE), (None,), (("make",),), ([],), (0, "a"), ("",), (" make",),
        ("do",), ("do", []), ("do", [], True, True), ("do", [], 1), ("do", [], 0), ("do", [], None), ("do", [], "True"),
        ("do", (), True), ("do", (("make",),), True), ("do", None, True), ("do", "", False), ("do", True, []),
        ["do", [], True], ("do", ("make",), True), ("do", ["make"], True), ("do", [["make"]], True),
        ("do", [("make",), ("make", 1)], True), ("do", [("do", [("undo", 1)], True)], True),
        ("do", [("do", [], 1)], False), ("do", [("do", (), True)], True), ("do", [("do", [("do", [])], True)], True),
    )

    def refused(self, number, deeds, **named):
        maker = full_maker()
        maker.make()
        was = maker_state(maker)
        check_refused(self, BadDeed, {"number": number}, maker.do, deeds, **named)
        self.assertEqual((maker_state(maker), maker.log(), maker.depth()), (was, [], 0))

    def test_any_thing(self):
        for thing in self.NO_DEEDS:
            self.refused(0, [thing])

    def test_the_first_of_several(self):
        for thing in self.NO_DEEDS[::3]:
            self.refused(2, [PUT, ("make",), thing, DROP, None], whole=False)
            self.refused(19, [PUT] * 19 + [thing])
            self.refused(1, [("undo",), ("do", [thing], True), thing])

    def test_ahead_of_all(self):
        for deed, error, fields in REFUSED:
            self.refused(2, [deed, PUT, ("pages",)])
            self.refused(1, [("do", [deed], True), ("do", [("make",), ("do", [None], True)], False)])

    def test_within_a_row_the_place_in_the_list_handed_in(self):
        deep = ("do", [PUT, PUT, PUT, ("do", [PUT, ("do", [PUT, PUT, ("drop",)], True)], True)], True)
        self.refused(1, [PUT, deep, PUT])
        self.refused(0, [deep])

    def test_things_of_any_kind_are_deeds_by_how_many_there_are(self):
        for thing in OTHER_THINGS:
            maker = full_maker()
            check_refused(self, NoPath, {"path": thing}, maker.do, [("drop", thing)])
            check_refused(self, BadDeed, {"number": 1}, maker.do, [("drop", thing), ("drop", thing, thing)])

    def test_open_behind_it(self):
        maker = full_maker()
        check_refused(self, BadDeed, {"number": 0}, maker.do, [("make", 1)])
        self.assertEqual(maker.do([("undo",)]), [True])
        self.assertEqual(maker.log(), in_rows(1, -1))


class ChanceTest(unittest.TestCase):
    """Rows of deeds by chance beside a second telling."""

    NAMES, TAGS, PATHS = ("page", "a", "b"), "tu", ("a", "b", "c/d", "e", "f")

    def test_rows(self):
        chance = random.Random(22)
        ends = []
        for time in range(60):
            site = chance_layers(chance, self.NAMES, self.TAGS, self.PATHS)
            maker, model = Maker(today=2, most=2), Model(2, 2)
            for deed in deeds_to(site):
                do_on(maker, deed)
                model.deed(deed)
            for step in range(15):
                deeds, whole = chance_row(chance, 3, self.NAMES, self.TAGS, self.PATHS), chance.randrange(2) == 0
                results = []
                for deed in (lambda: maker.do(deeds, whole=whole), lambda: model.row(deeds, whole)):
                    try:
                        results.append(("told", deed()))
                    except Exception as error:
                        results.append((type(error), repr(vars(error))))
                self.assertEqual(results[0], results[1])
                self.assertEqual(maker_state(maker), model.state())
                self.check_log(maker.log())
                ends.append((results[0][0] == "told", whole))
            maker.make()
            self.assertEqual(maker.kept(), made(maker.site()))
        for end in ((True, True), (True, False), (False, True), (False, False)):
            self.assertGreater(ends.count(end), 100, end)

    def check_log(self, log):
        """Each in has its out, in order."""
        under_way = 0
        for word, depth in log:
            under_way += word == "in"
            self.assertEqual(depth, under_way)
            under_way -= word == "out"
        self.assertEqual(under_way, 0)


if __name__ == "__main__":
    unittest.main()

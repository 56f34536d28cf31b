import random
import re
import unittest

from checks import chance_layers, chance_source, chance_template, check_refused
from pagemaker.desk import answers
from pagemaker.errors import BadRow, BadText
from pagemaker.filling import against
from pagemaker.links import broken, rings
from pagemaker.maker import Maker
from pagemaker.sources import source_of
from pagemaker.sourcetext import source_in, source_text
from pagemaker.templatetext import template_in, template_text

PUT_A = ["put a 3", "title A", "", "[b](b) and [z](z)"]
PUT_B = ["put b/b 3", "title B", "tags t u", "old b"]
HANG = ["hang page 2", "in -", "<{title}>"]


def told(*rows, **named):
    """The answers to these rows."""
    return answers("\n".join(rows), **named)


class AnswersTest(unittest.TestCase):
    def test_none(self):
        for text in ("", "\n", "\n\n\n"):
            self.assertEqual(answers(text), [])

    def test_each_deed(self):
        self.assertEqual(told(*PUT_A), ["done"])
        self.assertEqual(told(*HANG), ["done"])
        self.assertEqual(
            told(*PUT_A, *PUT_B, *HANG, "drop a", "move b/b c", "unhang page", "today 0", "today 999", "most 1", "most 9"),
            ["done"] * 10,
        )

    def test_undo(self):
        self.assertEqual(told("undo"), ["nothing"])
        self.assertEqual(
            told(*PUT_A, "pages", "undo", "pages", "undo", *PUT_A, "drop a", "undo", "pages"),
            ["done", "a", "done", "-", "nothing", "done", "done", "done", "a"],
        )

    def test_make(self):
        self.assertEqual(told("make"), ["-"])
        self.assertEqual(
            told(*PUT_A, *PUT_B, "make", "make", *HANG, "make", "move a c", "make", "drop b/b", "make", "most 2", "make"),
            ["done", "done", "/a /b /b/b /tag/t /tag/u", "-", "done", "/a:template /b/b:template", "done",
             "/a:under /c", "done", "-/b -/b/b -/tag/t -/tag/u", "done", "-"],
        )

    def test_make_of_anew_and_gone_at_once(self):
        self.assertEqual(
            told(*PUT_A, "hang page 2", "in -", "{body}", *PUT_B, "make", "move b/b n", "make", "drop n", "make")[3:],
            ["/a /b /b/b /tag/t /tag/u", "done", "/a:lead /b:lead /b/b:under /n /tag/t:part /tag/u:part", "done",
             "/a:lead -/b -/b/b -/n -/tag/t -/tag/u"],
        )

    def test_each_word_of_a_key(self):
        put = ["put a 3", "title A", "day 1", "tags t"]
        for page, other, word in (
            ("{title}", ["put a 3", "title B", "day 1", "tags t"], "title"),
            ("{day}", ["put a 2", "title A", "tags t"], "day"),
            ("{tags}", ["put a 3", "title A", "day 1", "tags t u"], "tags"),
            ("{body}", ["put a 5", "title A", "day 1", "tags t", "", "x"], "rows"),
            ("{pages u x}", ["put b 2", "title B", "tags u"], "tag"),
            ("{to b}", ["put b 1", "title B"], "lead"),
            ("{title}", ["hang page 2", "in -", ""], "template"),
            ("{title}", ["put a 4", "title A", "day 1", "tags t", "under x"], "under"),
        ):
            rows = ["today 5", "hang page 2", "in -", page, "hang x 2", "in -", "", *put, "make", *other, "make"]
            self.assertIn(f"/a:{word}", told(*rows)[-1].split(" "))
        self.assertEqual(told("today 5", *put, "make", "put b 2", "title B", "tags t", "make")[-1], "/b /tag/t:part")

    def test_asks(self):
        rows = [*PUT_A, *PUT_B, "put d 2", "title D", "draft", "put l 2", "title L", "day 6"]
        self.assertEqual(told(*rows, "pages", "tags")[4:], ["a b/b", "t u"])
        self.assertEqual(told("pages", "tags", "broken", "rings", "built"), ["-", "-", "-", "-", "0"])
        self.assertEqual(told(*rows, "today 6", "pages")[-1], "l a b/b")

    def test_lead(self):
        self.assertEqual(
            told(*PUT_B, "lead b/b", "lead b", "lead z", "lead z/z/z", "put d 2", "title D", "draft", "lead d"),
            ["done", "b/b", "b/b", "-", "-", "done", "-"],
        )

    def test_page_of_what_is_kept(self):
        self.assertEqual(
            told(*PUT_A, "page /a", "make", "page /a", *HANG, "page /a", "make", "page /a", "drop a", "page /a", "make",
                 "page /a"),
            ["done", "refused NoAddress", "/a", "fault 9", "done", "fault 9", "/a:template", "page 3", "done", "page 3",
             "-/a", "refused NoAddress"],
        )
        self.assertEqual(told(*PUT_B, "make", "page /b", "page /tag/t", "page /tag/t/2")[2:], [
            "moved 24", "part 44", "refused NoAddress"])

    def test_page_of_any_word(self):
        for word in ("a", "/", "-", "/a/", "*", "undo", "{}", "/" + "x" * 60, "0", "/tag/t/01"):
            self.assertEqual(told("page " + word), ["refused NoAddress"])

    def test_broken(self):
        self.assertEqual(told(*PUT_A, "broken"), ["done", "a:0:0 a:0:11"])
        self.assertEqual(
            told(*PUT_A, *PUT_B, "broken", "put c/c 4", "title C", "", "- x", "# [y](y)", "broken", "drop b/b", "broken")[2:],
            ["a:0:11", "done", "a:0:11 c/c:1:2", "done", "a:0:0 a:0:11 c/c:1:2"],
        )

    def test_rings(self):
        self.assertEqual(
            told("hang b 2", "in -", "{use a}", "rings", "hang a 2", "in b", "", "rings", "hang c 2", "in c", "", "rings"),
            ["done", "-", "done", "a b", "done", "a b c"],
        )

    def test_against(self):
        self.assertEqual(
            told("against page", *HANG, "against page", "hang a 2", "in a", "", "against a", "hang b 2", "in a", "",
                 "against b", "hang c 2", "in page", "{pages t d}", "hang d 2", "in -", "{body}", "against c"),
            ["none page", "done", "-", "done", "ring a a", "done", "ring b a a", "done", "done", "deep c d"],
        )
        self.assertEqual(
            told("hang a 2", "in -", "{use b}" * 12, "hang b 2", "in c", "", "hang c 2", "in -", "", "against a")[-1],
            "much 25",
        )

    def test_built(self):
        self.assertEqual(
            told(*PUT_A, "built", "make", "built", *PUT_B, "make", "built", "make", "built"),
            ["done", "0", "/a", "1", "done", "/b /b/b /tag/t /tag/u", "5", "-", "5"],
        )

    def test_of_the_site_as_it_is(self):
        self.assertEqual(
            told(*PUT_A, "make", "drop a", "pages", "broken", "lead a", "page /a"),
            ["done", "/a", "done", "-", "-", "-", "fault 9"],
        )

    def test_refused(self):
        self.assertEqual(
            told("drop a", "move a b", *PUT_A, *PUT_B, "move a a", "move a b/b", "unhang page", "today 1000", "today 9999",
                 "most 0", "most 10", "most 9999"),
            ["refused NoPath", "refused NoPath", "done", "done", "refused Taken", "refused Taken", "refused NoName"]
            + ["refused BadNumber"] * 5,
        )
        rows = [row for path in "abcdefghijklm" for row in (f"put {path} 1", "title T")]
        self.assertEqual(told(*rows, "pages"), ["done"] * 12 + ["refused TooMany", "a b c d e f g h i j k l"])
        rows = [row for name in "abcdefghi" for row in (f"hang {name} 2", "in -", "")]
        self.assertEqual(told(*rows), ["done"] * 8 + ["refused TooMany"])
        rows = ["put a 1", "title T"] + [f"move {one} {other}" for one, other in zip("abcdefg", "bcdefgh")]
        self.assertEqual(told(*rows, "pages"), ["done"] * 7 + ["refused TooMany", "g"])

    def test_refused_changes_nothing(self):
        self.assertEqual(
            told(*PUT_A, "make", "drop z", "move a a", "today 5000", "make", "undo", "pages", "undo"),
            ["done", "/a", "refused NoPath", "refused Taken", "refused BadNumber", "-", "done", "-", "nothing"],
        )

    def test_empty_rows(self):
        self.assertEqual(told("", *PUT_A, "", "", "pages", "", "make", ""), ["done", "a", "/a"])
        self.assertEqual(told("hang page 3", "in -", "", "", "", "make"), ["done", "-"])
        self.assertEqual(told("hang page 3", "in -", "", "", *PUT_A, "make", "page /a")[-1], "page 1")

    def test_many_rows_are_no_commands(self):
        self.assertEqual(told("hang page 3", "in -", "make", "undo", *PUT_A, "make", "page /a")[-1], "page 9")
        self.assertEqual(told("put a 4", "title make", "", "undo", "drop z", "pages"), ["done", "a"])
        self.assertEqual(told("put a 4", "title undo", "", "", "", "pages"), ["done", "a"])

    def test_today(self):
        put = ["put a 2", "title A", "day 5", "pages"]
        self.assertEqual(told(*put), ["done", "-"])
        self.assertEqual(told(*put, today=4), ["done", "-"])
        self.assertEqual(told(*put, today=5), ["done", "a"])
        self.assertEqual(answers(today=5, text="\n".join(put)), ["done", "a"])
        self.assertEqual(told(*put, "today 4", "pages", "undo", "pages", today=5), ["done", "a", "done", "-", "done", "a"])
        with self.assertRaises(TypeError):
            answers("", 5)

    def test_parts_of_four(self):
        rows = [row for path in "abcde" for row in (f"put {path} 2", "title T", "tags t")]
        self.assertEqual(told(*rows, "make", "most 9", "make")[5:], [
            "/a /b /c /d /e /tag/t /tag/t/2", "done", "/tag/t:part -/tag/t/2"])

    def test_a_maker_for_each(self):
        self.assertEqual((told(*PUT_A, "pages"), told("pages")), (["done", "a"], ["-"]))
        first = told("undo")
        first.clear()
        self.assertEqual(told("undo"), ["nothing"])


class BadRowTest(unittest.TestCase):
    WRONG = (
        " ", "  ", "x", "do", "Put a 1", "site", "kept", "stale", "set_today 5", "deeds", "log",
        "put", "put a", "put a ", "put a 1 ", "put  a 1", " put a 1", "put a  1", "put a 1 1", "put A 1", "put tag 1",
        "put tag/a 1", "put a/b/c/d 1", "put /a 1", "put a 0", "put a 01", "put a x", "put a -1", "put a 10000", "put 1",
        "hang", "hang page", "hang page 0", "hang page 02", "hang a/b 2", "hang page 2 ", "hang abcdefghi 2", "hang - 2",
        "drop", "drop ", "drop A", "drop a b", "drop /a", "drop a ", " drop a", "drop  a", "drop tag",
        "move", "move a", "move a ", "move a b c", "move a B", "move A b", "move  a b", "move a  b", "move a tag/b",
        "unhang", "unhang ", "unhang a/b", "unhang a b", "unhang A", "unhang  a",
        "today", "today ", "today 01", "today 00", "today -1", "today 10000", "today x", "today 1 2", "today  1", "today 1 ",
        "today " + "9" * 70, "most", "most ", "most 04", "most +4", "most 10000", "most x", "most 4 4", "most 1.0",
        "undo ", " undo", "undo 1", "make ", " make", "make a", "pages ", "pages a", "tags ", "tags t", "lead", "lead ",
        "lead A", "lead /a", "lead a b", "lead tag", "page", "page ", "page  ", "page /a ", "page  /a", "page /a b",
        "broken ", "broken a", "rings ", "rings a", "against", "against ", "against A", "against a b", "against a/b",
        "built ", "built 1", "in -", "title A", "-",
    )

    def refused(self, row, *rows, **named):
        check_refused(self, BadRow, {"row": row}, answers, "\n".join(rows), **named)

    def test_rows_not_so_written(self):
        for wrong in self.WRONG:
            self.refused(0, wrong)
            self.refused(0, wrong, "title A", today=5)
            self.refused(2, "make", "", wrong, "undo")
            self.refused(5, "", *PUT_A, wrong, *HANG, wrong)
            self.refused(4, "hang page 3", "in -", "", "", wrong, "title A")

    def test_numbers(self):
        for number in ("0", "9", "10", "999", "1000", "9998", "9999"):
            self.assertEqual(len(told("today " + number, "most " + number)), 2)
        self.refused(1, "today 9999", "today 10000")

    def test_rows_that_are_no_source(self):
        for rows in (
            ["title"], [""], ["in -"], ["title A", ""], ["title A", "day 0"], ["title A", "day 01"], ["title A", "make"],
            ["day 1", "title A"], ["title A "], ["title A", "tags b a"], ["title A", "under page"], ["make"],
            ["title A", ""] + [""] * 9, ["title A", "", "x" * 51],
        ):
            self.refused(0, f"put a {len(rows)}", *rows)
            self.refused(1, "make", f"put a {len(rows)}", *rows, "pages", "x")

    def test_rows_that_are_no_template(self):
        for rows in (
            ["in -"], [""], ["title A"], ["in A", ""], ["in -", "{"], ["in -", "}"], ["in -", "{x}"], ["in -", "{done}"],
            ["in -", "{when t}"], ["in -", "{body}{body}"], ["in", ""], ["", "in -", ""], ["in -", "{inner", "}"],
            ["in -", "{title}" * 13], ["in -"] + ["x" * 60] * 2,
        ):
            self.refused(0, f"hang page {len(rows)}", *rows)
            self.refused(1, "make", f"hang page {len(rows)}", *rows, "pages", "x")

    def test_rows_that_are_not_there(self):
        self.refused(0, "put a 1")
        self.refused(0, "put a 2", "title A")
        self.refused(0, "put a 9999", "title A", "", "x")
        self.refused(1, "make", "put a 4", "title A", "", "x")
        self.refused(0, "hang page 1")
        self.refused(0, "hang page 3", "in -", "")
        self.assertEqual(told("put a 3", "title A", "", "x"), ["done"])

    def test_fewer_rows_than_there_are(self):
        self.refused(2, "put a 1", "title A", "tags t")
        self.refused(0, "put a 2", "title A", "", "x")
        self.refused(3, "hang page 2", "in -", "", "x")

    def test_ahead_of_all_answers(self):
        self.refused(3, "drop z", "undo", "make", "make make")

    def test_by_its_name(self):
        check_refused(self, BadRow, {"row": 0}, answers, text="x", today=3)


PATH = r"(?!tag(?:/|$| ))[a-z]{1,8}(?:/[a-z]{1,8}){0,2}"
NAME, MANY, NUMBER = r"[a-z]{1,8}", r"[1-9][0-9]{0,3}", r"(?:0|[1-9][0-9]{0,3})"
WRITTEN = re.compile(
    f"put {PATH} {MANY}|hang {NAME} {MANY}|drop {PATH}|move {PATH} {PATH}|unhang {NAME}|today {NUMBER}|most {NUMBER}"
    f"|undo|make|pages|tags|lead {PATH}|page [^ ]+|broken|rings|against {NAME}|built"
)


def first_wrong(rows):
    """The number of the first row that isn't so written, told a second time; None where all are."""
    at = 0
    while at < len(rows):
        if rows[at] != "" and not WRITTEN.fullmatch(rows[at]):
            return at
        many = 0
        if rows[at].startswith(("put ", "hang ")):
            many = int(rows[at].split(" ")[2])
            text = "\n".join(rows[at + 1:at + 1 + many])
            try:
                (source_in if rows[at].startswith("put ") else template_in)(text)
            except (BadRow, BadText):
                return at
            if len(rows) < at + 1 + many:
                return at
        at += 1 + many
    return None


def expected(rows, today):
    """The answers, told a second time by a Maker's own methods."""
    maker, found, at = Maker(today=today), [], 0

    def listed(words):
        return " ".join(words) or "-"

    while at < len(rows):
        word, *things = rows[at].split(" ")
        many = int(things[1]) if word in ("put", "hang") else 0
        text = "\n".join(rows[at + 1:at + 1 + many])
        at += 1 + many
        site = maker.site()
        try:
            if word in ("put", "hang"):
                getattr(maker, word)(things[0], source_in(text) if word == "put" else template_in(text))
                found.append("done")
            elif word in ("drop", "move", "unhang"):
                getattr(maker, word)(*things)
                found.append("done")
            elif word in ("today", "most"):
                getattr(maker, "set_" + word)(int(things[0]))
                found.append("done")
            elif word == "undo":
                found.append("done" if maker.undo() else "nothing")
            elif word == "make":
                anew, gone = maker.make()
                found.append(listed([":".join([at] + list(key or ())[:1]) for at, key in anew] + ["-" + at for at in gone]))
            elif word in ("pages", "tags"):
                found.append(listed(getattr(site, word)()))
            elif word == "lead":
                found.append(site.lead(things[0]) or "-")
            elif word == "page":
                kind, text = maker.page(things[0])
                found.append(f"{kind} {len(text)}")
            elif word == "broken":
                found.append(listed(["%s:%d:%d" % place[:3] for place in broken(site)]))
            elif word == "rings":
                found.append(listed(rings(site)))
            elif word == "against":
                fault = against(site, things[0])
                what = fault and (fault[1] if isinstance(fault[1], list) else [str(fault[1])])
                found.append(listed([fault[0]] + what) if fault else "-")
            elif word == "built":
                found.append(str(maker.built()))
        except Exception as error:
            found.append("refused " + type(error).__name__)
    return found


class ChanceTest(unittest.TestCase):
    NAMES, TAGS, PATHS = ("page", "a", "b"), "tu", ("a", "b", "c/d", "e", "f")

    def command(self, chance):
        """The rows of a command by chance."""
        word = chance.choice("put put hang drop move unhang today most undo make make pages tags lead page broken rings "
                             "against built empty".split())
        path, name, number = chance.choice(self.PATHS), chance.choice(self.NAMES), str(chance.randrange(12))
        if word in ("put", "hang"):
            lower = self.NAMES[self.NAMES.index(name) + 1:]
            text = source_text(chance_source(chance, self.NAMES, self.TAGS, self.PATHS)) if word == "put" else (
                template_text(chance_template(chance, chance.choice((lower, self.NAMES)), self.TAGS, self.PATHS)))
            rows = text.split("\n")
            return [f"{word} {path if word == 'put' else name} {len(rows)}"] + rows
        things = {
            "drop": [path], "move": [path, chance.choice(self.PATHS)], "unhang": [name], "today": [number],
            "most": [number], "lead": [path], "against": [name],
            "page": [chance.choice(("/" + path, "/tag/t", "/tag/u/2", path))],
        }
        return [""] if word == "empty" else [" ".join([word] + things.get(word, []))]

    def first_rows(self, chance):
        """Rows that put and hang all of a site whose pages are mostly filled."""
        site, rows = chance_layers(chance, self.NAMES, self.TAGS, self.PATHS), []
        for name in site.names():
            told = template_text(site.template(name)).split("\n")
            rows += [f"hang {name} {len(told)}"] + told
        return rows + [row for path in site.paths() for row in [
            f"put {path} " + str(len(source_text(site.source(path)).split("\n")))
        ] + source_text(site.source(path)).split("\n")]

    def test_answers(self):
        chance = random.Random(24)
        kinds = []
        for time in range(80):
            rows = self.first_rows(chance) if time % 2 else []
            for step in range(40):
                rows.extend(self.command(chance))
            self.assertIsNone(first_wrong(rows))
            found = answers("\n".join(rows), today=time % 3)
            self.assertEqual(found, expected(rows, time % 3))
            kinds.extend(found)
        for kind in ("done", "nothing", "-", "refused NoPath", "refused NoName", "refused Taken", "refused BadNumber",
                     "refused NoAddress", "a b"):
            self.assertIn(kind, kinds)

    def test_wrong_rows(self):
        chance = random.Random(25)
        wrong = 0
        for time in range(600):
            rows = [row for step in range(6) for row in self.command(chance)]
            at = chance.randrange(len(rows))
            row = rows[at]
            place = chance.randrange(len(row) + 1)
            rows[at:at + 1] = chance.choice((
                [], [row, row], [row[:place] + row[place + 1:]], [row[:place] + chance.choice(" 0a/") + row[place:]],
                [row.upper()], [row, chance.choice(BadRowTest.WRONG)],
            ))
            number = first_wrong(rows)
            if number is None:
                self.assertEqual(answers("\n".join(rows)), expected(rows, 0))
            else:
                check_refused(self, BadRow, {"row": number}, answers, "\n".join(rows))
                wrong += 1
        self.assertGreater(wrong, 200)


class BoundsTest(unittest.TestCase):
    def test_three_hundred_rows_of_which_a_hundred_and_twenty_are_deeds(self):
        rows = ["put a 2", "title " + "T" * 40, "day 1"] * 60 + ["today 9", "most 9"] * 30 + ["undo"] * 60
        self.assertEqual(len(rows), 300)
        self.assertEqual(told(*rows), ["done"] * 180)
        self.assertEqual(told(*rows, *["undo"] * 61, "pages"), ["done"] * 240 + ["nothing", "-"])

    def test_sources(self):
        source = source_of("T" * 40, day=999, draft=True, tags=("a", "b", "c"), under="z", olds=("x", "y"), rows=("",) * 8)
        rows = source_text(source).split("\n")
        self.assertEqual(told(f"put a {len(rows)}", *rows), ["done"])


if __name__ == "__main__":
    unittest.main()

"""All that the interface lists, with its arguments as [2] has them."""

import importlib
import inspect
import unittest

# Of each file its functions, with their arguments; those behind a star are handed in by their names alone.
FUNCTIONS = {
    "words": ("is_name(thing)", "is_path(thing)", "escaped(text)", "plain_of(text)"),
    "sources": (
        "is_source(thing)", "source_of(title, *, day=0, draft=False, tags=(), under='page', olds=(), rows=())",
    ),
    "sourcetext": ("source_text(source)", "source_in(text)"),
    "marks": ("parts_of(row)", "blocks_of(rows)", "targets_of(blocks)", "marked(blocks, leads, *, strict=True)"),
    "templates": ("is_template(thing)", "calls_of(template)"),
    "templatetext": ("template_text(template)", "template_in(text)"),
    "facts": ("fact(site, key)",),
    "filling": ("against(site, name)", "page_text(site, path)", "reads_of(site, path)"),
    "parts": ("part_text(site, tag, number)", "part_reads(site, tag, number)"),
    "made": ("made(site)", "reads_at(site, address)", "unlike(one, other)"),
    "flat": ("flat_of(site, name)", "made_flat(site)"),
    "links": (
        "links_of(site, path)", "broken(site)", "broken_to(site)", "linking(site, path)", "reached(site, path)",
        "ring_of(site, name)", "rings(site)",
    ),
    "papers": ("text_by(address, reads)", "least_paper(ahead, behind)", "shows_least(ahead, behind, thing)"),
    "sitetext": ("site_text(site)", "site_in(text)"),
    "desk": ("answers(text, *, today=0)",),
}
DEEDS = (
    "put(self, path, source)", "drop(self, path)", "move(self, path, to)", "hang(self, name, template)",
    "unhang(self, name)", "set_today(self, day)", "set_most(self, many)",
)
METHODS = {
    ("sites", "Site"): DEEDS + (
        "__init__(self, *, today=0, most=4)", "paths(self)", "names(self)", "source(self, path)", "template(self, name)",
        "today(self)", "most(self)", "like(self)", "pages(self)", "tags(self)", "pages_of(self, tag)", "lead(self, path)",
        "__len__(self)", "__eq__(self, other)", "__repr__(self)",
    ),
    ("maker", "Maker"): DEEDS + (
        "__init__(self, *, today=0, most=4)", "undo(self)", "deeds(self)", "make(self)", "stale(self)", "kept(self)",
        "page(self, address)", "built(self)", "site(self)", "twin(self)", "do(self, deeds, *, whole=True)", "depth(self)",
        "log(self)",
    ),
}
ERRORS = {
    ValueError: "BadSource(part) BadRow(row) BadText(at) BadPath(path) BadName(name) BadTemplate(name) "
                "BadNumber(number) BadDeed(number)",
    KeyError: "NoLead(path) NoName(name) NoRead(key) BadKey(key)",
    LookupError: "NoPath(path) NoPage(path) NoAddress(address)",
    IndexError: "NoPart(tag,number)",
    OverflowError: "TooMany(many)",
    RuntimeError: "Taken(path) Fault(word,what)",
}


def module(name):
    return importlib.import_module("pagemaker." + name)


class InterfaceTest(unittest.TestCase):
    def check(self, told, function):
        name, arguments = told.split("(", 1)
        self.assertEqual(str(inspect.signature(function)), "(" + arguments, told)
        self.assertEqual(function.__name__, name)

    def test_functions(self):
        for file, functions in FUNCTIONS.items():
            for told in functions:
                self.check(told, getattr(module(file), told.split("(")[0]))

    def test_methods_stand_in_the_class_itself(self):
        for (file, name), methods in METHODS.items():
            for told in methods:
                self.check(told, vars(getattr(module(file), name))[told.split("(")[0]])

    def test_limits(self):
        limits = module("limits")
        self.assertEqual((limits.PAGE, limits.MOST), ("page", 4))
        self.assertEqual(limits.FIELDS, ("title", "path", "day", "tags", "body", "inner"))

    def test_errors(self):
        many = 0
        for base, told in ERRORS.items():
            for error in told.split(" "):
                name, fields = error.rstrip(")").split("(")
                kind = getattr(module("errors"), name)
                self.assertEqual(kind.__bases__, (base,))
                things = [[at] for at, field in enumerate(fields.split(","))]
                self.assertEqual(vars(kind(*things)), dict(zip(fields.split(","), things)))
                self.assertEqual(vars(kind(**dict(zip(fields.split(","), things)))), dict(zip(fields.split(","), things)))
                many += 1
        self.assertEqual(many, 19)


if __name__ == "__main__":
    unittest.main()

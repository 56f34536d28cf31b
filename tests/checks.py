"""What several tests check alike, and sites for them."""

from pagemaker.errors import BadText, NoName, NoPath, Taken, TooMany
from pagemaker.sites import Site
from pagemaker.sources import source_of
from pagemaker.templatetext import template_in


def check_refused(test, error, fields, deed, *handed, **named):
    """The deed is refused with just this class and these fields; repr tells 1 from True, and a tuple from a list."""
    with test.assertRaises(error) as caught:
        deed(*handed, **named)
    test.assertIs(type(caught.exception), error, (handed, named))
    test.assertEqual(repr(vars(caught.exception)), repr(fields), (handed, named))
    return caught.exception


def state_of(site):
    """All that a Site has, as a value that can be compared."""
    sources = [(path, site.source(path)) for path in site.paths()]
    templates = [(name, site.template(name)) for name in site.names()]
    return (sources, templates, site.today(), site.most(), len(site), repr(site))


def site_of(templates, sources=(), *, today=9, most=4):
    """A Site with templates told by dict of texts, of which one without a first row has no holder, and sources."""
    site = Site(today=today, most=most)
    for name, text in dict(templates).items():
        site.hang(name, template_in(text if text.startswith("in ") else "in -\n" + text))
    for path, source in dict(sources).items():
        site.put(path, source)
    return site


def chance_template(chance, names, tags, paths):
    """A template by chance, of not many pieces, so that pages at fault aren't all that there is; maybe of no names."""
    words = ("plain", "title", "path", "day", "tags", "body", "inner", "to", "when") + ("use", "pages") * bool(names)

    def piece():
        word = chance.choice(words)
        if word == "plain":
            return chance.choice(("x", "\n", "<hr>"))
        if word == "use":
            return "{use " + chance.choice(names) + "}"
        if word == "pages":
            return "{pages " + chance.choice(tags) + " " + chance.choice(names) + "}"
        if word == "to":
            return "{to " + chance.choice(paths) + "}"
        if word == "when":
            return "{when " + chance.choice(tags) + "}" + piece() + "{done}"
        return "{" + word + "}"
    holder = chance.choice(["-", "-"] + list(names))
    while True:
        try:
            return template_in(f"in {holder}\n" + "".join([piece() for at in range(chance.randrange(5))]))
        except BadText:
            pass


def chance_layers(chance, names, tags, paths):
    """A Site by chance in which each template calls only names behind its own, so that most pages are filled."""
    site = Site(today=2, most=2)
    for at, name in enumerate(names):
        site.hang(name, chance_template(chance, names[at + 1:], tags, paths))
    for path in paths:
        if chance.randrange(4):
            site.put(path, chance_source(chance, names, tags, paths))
    return site


def chance_source(chance, names, tags, paths):
    """A source by chance."""
    rows = ("# a *b* <c>", "- [one](%s)" % chance.choice(paths), "[x&y](%s) z" % chance.choice(paths), "")
    return source_of(
        chance.choice(("T", "A & B", '"<q>"')), day=chance.randrange(4), draft=chance.randrange(8) == 0,
        tags=tuple(chance.sample(tags, chance.randrange(min(4, len(tags) + 1)))), under=chance.choice(names),
        olds=tuple(chance.sample(paths, chance.randrange(3))),
        rows=tuple(chance.sample(rows, chance.randrange(4))),
    )


def chance_deed(chance, site, names, tags, paths):
    """One deed by chance is done on the Site, or refused."""
    word = chance.choice(("put", "put", "drop", "move", "hang", "hang", "unhang", "set_today", "set_most"))
    try:
        if word == "put":
            site.put(chance.choice(paths), chance_source(chance, names, tags, paths))
        elif word == "move":
            site.move(chance.choice(paths), chance.choice(paths))
        elif word == "hang":
            site.hang(chance.choice(names), chance_template(chance, names, tags, paths))
        elif word in ("drop", "unhang"):
            getattr(site, word)(chance.choice(paths if word == "drop" else names))
        else:
            getattr(site, word)(chance.randrange(1, 5))
    except (NoName, NoPath, Taken, TooMany):
        pass

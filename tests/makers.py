"""What tests of makers share: all that one has, a second telling of it, and deeds by chance."""

from checks import chance_source, chance_template, state_of
from pagemaker.facts import fact
from pagemaker.made import made, reads_at
from pagemaker.maker import Maker
from pagemaker.sites import Site
from pagemaker.sources import source_of
from pagemaker.templatetext import template_in

WORDS = ("put", "drop", "move", "hang", "unhang", "set_today", "set_most")

TEMPLATES = {
    "page": "in frame\n<{title}>{body}{pages t item}{when u}{day}{done}", "frame": "{to c}({inner})", "item": "{title};",
    "other": "{path}", "spare": "x",
}
SOURCES = {
    "a": source_of("A", day=3, tags=("t",), olds=("aold",)),
    "b": source_of("B", day=4, tags=("t", "u"), rows=("[c](c) [z](z)",)),
    "c": source_of("C", day=1, under="other", tags=("v",)),
    "d": source_of("D", draft=True, tags=("t",)),
    "e": source_of("E", day=10, under="other", tags=("t",)),
}


def full_maker(*, today=9, most=1):
    """A Maker with the templates and sources above; nothing is made yet."""
    maker = Maker(today=today, most=most)
    for name, text in TEMPLATES.items():
        maker.hang(name, template_in(text if text.startswith("in ") else "in -\n" + text))
    for path, source in SOURCES.items():
        maker.put(path, source)
    return maker


def sites_behind_undos(maker):
    """What a twin's site is now, and behind each undo."""
    twin = maker.twin()
    states = [state_of(twin.site())]
    while twin.undo():
        states.append(state_of(twin.site()))
    return states


def maker_state(maker):
    """All that a Maker has but its log, as a value that can be compared."""
    return (
        sites_behind_undos(maker), maker.deeds(), maker.kept(), maker.built(), maker.stale(), maker.depth(),
        [maker.page(address) for address, kind, text in maker.kept()],
    )


class Model:
    """A Maker told a second time: each Site of the past is kept whole, and all is made afresh at each make."""

    def __init__(self, today, most):
        self.now = Site(today=today, most=most)
        self.past = []
        self.kept = {}
        self.many = 0

    def copy(self):
        other = Model(0, 1)
        other.now, other.past = self.now.like(), [site.like() for site in self.past]
        other.kept, other.many = dict(self.kept), self.many
        return other

    def deed(self, deed):
        """What the deed tells; a refusal is raised, and what is put back then is the caller's."""
        word, *handed = deed
        if word == "do":
            return self.row(*handed)
        if word == "undo":
            if not self.past:
                return False
            self.now = self.past.pop()
            return True
        if word == "make":
            return self.make()
        ahead = self.now.like()
        getattr(self.now, word)(*handed)
        self.past.append(ahead)
        return None

    def row(self, deeds, whole):
        ahead = self.copy()
        told = []
        for deed in deeds:
            try:
                told.append(self.deed(deed))
            except Exception:
                if whole:
                    self.now, self.past, self.kept, self.many = ahead.now, ahead.past, ahead.kept, ahead.many
                raise
        return told

    def stale(self):
        afresh = made(self.now)
        anew = []
        for address, kind, text in afresh:
            if address not in self.kept:
                anew.append((address, None))
            else:
                others = [key for key, value in self.kept[address][1] if fact(self.now, key) != value]
                anew.extend([(address, others[0])] if others else [])
        return (anew, sorted(set(self.kept) - {address for address, kind, text in afresh}))

    def make(self):
        told = self.stale()
        # Reads of what isn't built anew are as they were: no fact among them is another one.
        self.kept = {
            address: ((kind, text), reads_at(self.now, address)) for address, kind, text in made(self.now)
        }
        self.many += len(told[0])
        return told

    def state(self):
        """As maker_state."""
        kept = [(address,) + self.kept[address][0] for address in sorted(self.kept)]
        sites = [state_of(site) for site in [self.now] + self.past[::-1]]
        return (
            sites, len(self.past), kept, self.many, self.stale(), 0, [(kind, text) for address, kind, text in kept],
        )


def deeds_to(site):
    """Deeds, told as tuples, that hang and put all that a Site has."""
    hung = [("hang", name, site.template(name)) for name in site.names()]
    return hung + [("put", path, site.source(path)) for path in site.paths()]


def chance_one_part(chance, site, names, tags, paths):
    """A put, told as a tuple, of a source of the Site with one part otherwise."""
    path = chance.choice(site.paths())
    source, other = site.source(path), chance_source(chance, names, tags, paths)
    at = chance.randrange(7)
    return ("put", path, source[:at] + (other[at],) + source[at + 1:])


def chance_told_deed(chance, names, tags, paths, site=None):
    """A deed of a Site by chance, as a tuple; some are refused."""
    if site is not None and len(site) > 0 and chance.randrange(2):
        return chance_one_part(chance, site, names, tags, paths)
    word = chance.choice(WORDS + ("put", "put", "hang"))
    if word == "put":
        return ("put", chance.choice(paths + ("tag",)), chance_source(chance, names, tags, paths))
    if word == "move":
        return ("move", chance.choice(paths), chance.choice(paths))
    if word == "hang":
        return ("hang", chance.choice(names), chance_template(chance, names, tags, paths))
    if word in ("drop", "unhang"):
        return (word, chance.choice(paths if word == "drop" else names))
    return (word, chance.randrange(6) or True)


def chance_row(chance, deep, names, tags, paths):
    """A list of deeds by chance, undo, make and rows within it among them."""
    deeds = []
    for at in range(chance.randrange(6)):
        choice = chance.randrange(10)
        if choice == 0:
            deeds.append(("make",))
        elif choice < 3:
            deeds.append(("undo",))
        elif choice == 3 and deep > 1:
            deeds.append(("do", chance_row(chance, deep - 1, names, tags, paths), chance.randrange(2) == 0))
        else:
            deeds.append(chance_told_deed(chance, names, tags, paths))
    return deeds

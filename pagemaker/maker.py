"""A maker: it keeps a site over many deeds, and what was made of it, and builds anew least."""

from pagemaker.anew import build_of, rows_anew
from pagemaker.deeds import do_on, wrong_deed
from pagemaker.errors import BadDeed, NoAddress
from pagemaker.limits import MOST
from pagemaker.made import places_of
from pagemaker.sites import Site
from pagemaker.things import own_copy


class Maker:
    """Sites, lists and dicts that it keeps are never changed, but exchanged; so what was ahead is kept by its name.

    Only the log is added to: it is never put back.
    """

    def __init__(self, *, today=0, most=MOST):
        self.site_now = Site(today=today, most=most)
        self.sites_ahead = []
        self.build_at = {}
        self.built_many = 0
        self.rows_deep = 0
        self.ends = []

    def put(self, path, source):
        """As Site's."""
        self.step(("put", path, source))

    def drop(self, path):
        """As Site's."""
        self.step(("drop", path))

    def move(self, path, to):
        """As Site's."""
        self.step(("move", path, to))

    def hang(self, name, template):
        """As Site's."""
        self.step(("hang", name, template))

    def unhang(self, name):
        """As Site's."""
        self.step(("unhang", name))

    def set_today(self, day):
        """As Site's."""
        self.step(("set_today", day))

    def set_most(self, many):
        """As Site's."""
        self.step(("set_most", many))

    def step(self, deed):
        """A Site's deed is done, so that it can be undone; refused as Site's."""
        site = self.site_now.like()
        do_on(site, deed)
        self.sites_ahead = self.sites_ahead + [self.site_now]
        self.site_now = site

    def undo(self):
        """Whether there was a deed that could be undone; the last one is."""
        if self.deeds() == 0:
            return False
        self.site_now = self.sites_ahead[-1]
        self.sites_ahead = self.sites_ahead[:-1]
        return True

    def deeds(self):
        """How many deeds can be undone."""
        return len(self.sites_ahead)

    def stale(self):
        """What make would tell: the pair (anew, gone)."""
        rows = rows_anew(self.site_now, {address: build[2] for address, build in self.build_at.items()})
        gone = sorted(set(self.build_at) - set(places_of(self.site_now)))
        return ([(address, key) for address, key, was, now in rows], gone)

    def make(self):
        """What is kept is the site made as it is; the pair of what was built anew, and of what is gone."""
        anew, gone = self.stale()
        place_at = places_of(self.site_now)
        build_at = {address: self.build_at[address] for address in self.build_at if address in place_at}
        for address, key in anew:
            build_at[address] = build_of(self.site_now, place_at[address])
        self.build_at = build_at
        self.built_many += len(anew)
        return (anew, gone)

    def kept(self):
        """The rising list of (address, kind, text) of all that is kept."""
        return [(address,) + self.page(address) for address in sorted(self.build_at)]

    def page(self, address):
        """The pair (kind, text) that is kept there; refused with NoAddress(address)."""
        if not isinstance(address, str) or address not in self.build_at:
            raise NoAddress(own_copy(address))
        kind, text, reads = self.build_at[address]
        return (kind, text)

    def built(self):
        """How many were built by all makes."""
        return self.built_many

    def site(self):
        """A Site like its own."""
        return self.site_now.like()

    def twin(self):
        """A Maker of its own that's the same in all, its log empty."""
        other = Maker()
        other.site_now, other.sites_ahead = self.site_now, self.sites_ahead
        other.build_at, other.built_many = self.build_at, self.built_many
        return other

    def do(self, deeds, *, whole=True):
        """The list of what the deeds tell, one behind the other; refused with BadDeed(number), or as one of them."""
        number = wrong_deed(deeds)
        if number is not None:
            raise BadDeed(number)
        return self.row_done(deeds, whole)

    def row_done(self, deeds, whole):
        """The list of what the deeds tell; where one is refused and whole is so, all is as it was ahead."""
        ahead = self.twin() if whole else None
        told = None
        self.rows_deep += 1
        self.ends.append(("in", self.rows_deep))
        try:
            told = [self.deed_done(deed) for deed in deeds]
            return told
        finally:
            self.ends.append(("out", self.rows_deep))
            self.rows_deep -= 1
            if told is None and ahead is not None:
                self.site_now, self.sites_ahead = ahead.site_now, ahead.sites_ahead
                self.build_at, self.built_many = ahead.build_at, ahead.built_many

    def deed_done(self, deed):
        """What the deed tells."""
        if deed[0] == "do":
            return self.row_done(deed[1], deed[2])
        if deed[0] == "undo":
            return self.undo()
        if deed[0] == "make":
            return self.make()
        return self.step(deed)

    def depth(self):
        """How many do are under way."""
        return self.rows_deep

    def log(self):
        """The list of both ends of all do, in order."""
        return list(self.ends)

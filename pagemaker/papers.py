"""Papers: texts made by reads alone, and what shows that no more than must be is built anew."""

from pagemaker.addresses import place_in
from pagemaker.anew import build_of, rows_anew
from pagemaker.errors import NoAddress, NoRead
from pagemaker.made import place_made, places_of
from pagemaker.things import is_same, own_copy


class Given:
    """Facts that are handed in as reads, and no others."""

    def __init__(self, reads):
        self.given_by = {key: value for key, value in reads}

    def has(self, key):
        """Whether the fact is among them."""
        return key in self.given_by

    def ask(self, key):
        """The fact of this key; refused with NoRead(key)."""
        if not self.has(key):
            raise NoRead(key)
        return self.given_by[key]


def path_place(given, path):
    """("page", path) or ("moved", path), whichever the reads tell of, None where neither is; refused with NoRead."""
    under = ("under", path)
    lead = ("lead", path)
    if given.has(under) or not given.has(lead):
        if given.ask(under) is not None:
            return ("page", path)
    return None if given.ask(lead) in (None, path) else ("moved", path)


def text_by(address, reads):
    """The pair (kind, text) that is made there by these reads; refused with NoAddress(address), NoRead(key)."""
    place = place_in(address)
    if place is None:
        raise NoAddress(own_copy(address))
    given = Given(reads)
    if place[0] == "page":
        place = path_place(given, place[1])
    elif given.ask(place) is None:
        place = None
    if place is None:
        raise NoAddress(address)
    return place_made(given, place)


def least_paper(ahead, behind):
    """The rising list of (address, key, was, now) of what a maker that made ahead must build at behind."""
    return rows_anew(behind, {address: build_of(ahead, place)[2] for address, place in places_of(ahead).items()})


def shows_least(ahead, behind, thing):
    """Whether thing is a list, in any order, of just the rows of the least paper."""
    paper = least_paper(ahead, behind)
    if not isinstance(thing, list) or len(thing) != len(paper):
        return False
    # No two rows of the paper are the same, so of as many things each is just one of them where each row is found.
    return all([any([is_same(row, other) for other in thing]) for row in paper])

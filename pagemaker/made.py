"""Made sites: the rising lists of triples (address, kind, text); facts is what tells facts by ask(key)."""

from pagemaker.addresses import page_address, part_address
from pagemaker.asked import Asked
from pagemaker.errors import NoAddress
from pagemaker.facts import fact
from pagemaker.filling import lead_address, page_made
from pagemaker.parts import part_made
from pagemaker.things import own_copy


def moved_paths(site):
    """The rising list of all paths among olds of pages at which no page is."""
    pages = site.pages()
    olds = [old for page in pages for old in site.source(page)[5]]
    return sorted(set(olds) - set(pages))


def part_places(site):
    """The list of ("part", tag, number) of all parts."""
    counts = [(tag, fact(site, ("part", tag, 1))[1]) for tag in site.tags()]
    return [("part", tag, number) for tag, many in counts for number in range(1, many + 1)]


def places_of(site):
    """Of each address at which something is made ("page", path), ("part", tag, number) or ("moved", path)."""
    place_at = {page_address(path): ("page", path) for path in site.pages()}
    for path in moved_paths(site):
        place_at[page_address(path)] = ("moved", path)
    for place in part_places(site):
        place_at[part_address(place[1], place[2])] = place
    return place_at


def moved_made(facts, path):
    """The text at an old name that leads on."""
    return f'<a href="{lead_address(facts, path)}">moved</a>'


def place_made(facts, place):
    """The pair (kind, text) of what is made at a place."""
    if place[0] == "part":
        return ("part", part_made(facts, place[1], place[2]))
    if place[0] == "moved":
        return ("moved", moved_made(facts, place[1]))
    return page_made(facts, place[1])


def made(site):
    """The made site: the rising list of triples (address, kind, text)."""
    return sorted([(address,) + place_made(Asked(site), place) for address, place in places_of(site).items()])


def reads_at(site, address):
    """The list of pairs (key, value) of all facts that are read for an address; refused with NoAddress(address)."""
    place_at = places_of(site)
    if not isinstance(address, str) or address not in place_at:
        raise NoAddress(own_copy(address))
    asked = Asked(site)
    place_made(asked, place_at[address])
    return asked.reads()


def pairs_by_address(triples):
    """Of each address of a made site the pair (kind, text)."""
    return {address: (kind, text) for address, kind, text in triples}


def unlike(one, other):
    """None, or (address, mine, theirs) of the least address that the two made sites tell unlike."""
    mine = pairs_by_address(one)
    theirs = pairs_by_address(other)
    for address in sorted(set(mine) | set(theirs)):
        if mine.get(address) != theirs.get(address):
            return (address, mine.get(address), theirs.get(address))
    return None

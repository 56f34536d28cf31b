"""What was built once, and what of it must be built anew."""

from pagemaker.asked import Asked
from pagemaker.made import place_made, places_of


def build_of(site, place):
    """What is built at a place: (kind, text, reads)."""
    asked = Asked(site)
    kind, text = place_made(asked, place)
    return (kind, text, asked.reads())


def first_other(facts, reads):
    """(key, was, now) of the first of the reads whose fact is another one now, three None where none is."""
    for key, was in reads:
        now = facts.ask(key)
        if now != was:
            return (key, was, now)
    return (None, None, None)


def rows_anew(site, reads_by):
    """The rising list of (address, key, was, now) of all that must be built; reads_by has the reads of what was.

    Key, was and now are those of the first fact that is another one now, None of an address that wasn't there.
    """
    asked = Asked(site)
    rows = [(address,) + first_other(asked, reads_by.get(address, [])) for address in sorted(places_of(site))]
    return [row for row in rows if row[0] not in reads_by or row[1] is not None]

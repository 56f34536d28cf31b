"""Links of pages, where they lead, and rings of templates."""

from pagemaker.asked import Asked
from pagemaker.filling import page_asked
from pagemaker.marks import marks_of
from pagemaker.roads import road_back
from pagemaker.templatetext import piece_in, runs_of, template_text


def links_of(site, path):
    """The list of (row, at, target, led) of all links in the rows of the page there; refused with NoPage(path)."""
    rows = page_asked(site, path).ask(("rows", path))
    # What a head or an item begins with begins no mark, so the whole row has its links where they stand.
    marks = [(row, at, mark) for row, text in enumerate(rows) for at, mark in marks_of(text)]
    return [(row, at, mark[2], site.lead(mark[2])) for row, at, mark in marks if mark[0] == "link"]


def broken(site):
    """The list of (path, row, at, target) of all pages' links that lead nowhere."""
    links = [(path,) + link for path in sorted(site.pages()) for link in links_of(site, path)]
    return [(path, row, at, target) for path, row, at, target, led in links if led is None]


def places_of_to(template):
    """The list of pairs (place of its brace in the template's text, path) of all to, within when too."""
    # Runs go over the text from end to end, so those within when need no way of their own.
    pieces = [(at, piece_in(run)) for at, run in runs_of(template_text(template), 0)]
    return [(at, piece[1]) for at, piece in pieces if piece[0] == "to"]


def broken_to(site):
    """The list of (name, at, path) of all to in templates that lead nowhere."""
    told = [(name,) + place for name in site.names() for place in places_of_to(site.template(name))]
    return [(name, at, path) for name, at, path in told if site.lead(path) is None]


def led_from(site, path):
    """The list of all pages to which links of the page there lead; refused with NoPage(path)."""
    return [led for row, at, target, led in links_of(site, path) if led is not None]


def linking(site, path):
    """The rising list of pages that have a link led to that path."""
    return [page for page in sorted(site.pages()) if path in led_from(site, page)]


def reached(site, path):
    """The rising list of the page and of all to which links lead from it on; refused with NoPage(path)."""
    found = [path]
    at = 0
    while at < len(found):
        for led in led_from(site, found[at]):
            if led not in found:
                found.append(led)
        at += 1
    return sorted(found)


def ring_of(site, name):
    """The shortest road from the template back to it, of several the first, or None; refused with NoName(name)."""
    site.template(name)
    return road_back(Asked(site), name)


def rings(site):
    """The rising list of the names of all templates from which a road leads back."""
    return [name for name in site.names() if ring_of(site, name) is not None]

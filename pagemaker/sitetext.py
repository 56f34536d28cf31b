"""Sites as texts: today, most, and the texts of all sources and templates, each behind a row of its own."""

from pagemaker.behind import source_behind, template_behind
from pagemaker.errors import BadName, BadPath, BadRow, BadSource, BadTemplate, TooMany
from pagemaker.limits import LAST_DAY, PART_PAGES
from pagemaker.sites import Site
from pagemaker.sourcetext import source_text
from pagemaker.templatetext import template_text
from pagemaker.words import number_in


def told_rows(word, name, text):
    """The rows of a source or template: what it is and how many rows its text has, and these."""
    rows = text.split("\n")
    return [f"{word} {name} {len(rows)}"] + rows


def site_text(site):
    """The text of a site."""
    rows = [f"today {site.today()}", f"most {site.most()}"]
    for path in site.paths():
        rows.extend(told_rows("source", path, source_text(site.source(path))))
    for name in site.names():
        rows.extend(told_rows("template", name, template_text(site.template(name))))
    return "\n".join(rows)


def head_number(rows, at, word, least, most):
    """The number, from least to most, behind the word in this row; refused with BadRow(row)."""
    row = rows[at] if at < len(rows) else ""
    first, gap, rest = row.partition(" ")
    number = number_in(rest, most) if first == word else None
    if number is None or number < least:
        raise BadRow(at)
    return number


def mention_at(rows, at):
    """(word, name, many) of a row that tells what stands behind it; refused with BadRow(row)."""
    words = rows[at].split(" ")
    many = number_in(words[2], len(rows)) if len(words) == 3 else None
    if many is None or words[0] not in ("source", "template"):
        raise BadRow(at)
    return (words[0], words[1], many)


def take_in(site, rows, at, mention):
    """The Site has what stands behind this row, which mentions it; refused with BadRow(row) where the Site refuses."""
    word, name, many = mention
    try:
        if word == "source":
            site.put(name, source_behind(rows, at, many))
        else:
            site.hang(name, template_behind(rows, at, many))
    except (BadPath, BadSource, BadName, BadTemplate, TooMany):
        raise BadRow(at) from None


def site_in(text):
    """The Site whose text it is; refused with BadRow(row)."""
    rows = text.split("\n")
    site = Site(
        today=head_number(rows, 0, "today", 0, LAST_DAY),
        most=head_number(rows, 1, "most", 1, PART_PAGES),
    )
    at = 2
    ahead = ("", "")
    while at < len(rows):
        mention = mention_at(rows, at)
        # The word source is the lesser one, so such pairs rise where sources stand ahead and all names rise.
        if mention[:2] <= ahead:
            raise BadRow(at)
        take_in(site, rows, at, mention)
        ahead = mention[:2]
        at += 1 + mention[2]
    return site

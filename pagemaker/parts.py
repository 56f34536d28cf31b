"""Parts of the list of a tag's pages; facts is what tells facts by ask(key)."""

from pagemaker.addresses import page_address, part_address
from pagemaker.asked import Asked
from pagemaker.errors import NoPart
from pagemaker.facts import fact, is_key
from pagemaker.things import own_copy
from pagemaker.words import escaped


def page_row(facts, path):
    """The row of a page in a part."""
    title = escaped(facts.ask(("title", path)))
    return f'<li><a href="{page_address(path)}">{title}</a></li>'


def part_made(facts, tag, number):
    """The text of a part that is there."""
    paths, many = facts.ask(("part", tag, number))
    rows = [f"<h1>{tag} {number}/{many}</h1>"]
    rows.extend([page_row(facts, path) for path in paths])
    if number > 1:
        rows.append(f'<a href="{part_address(tag, number - 1)}">before</a>')
    if number < many:
        rows.append(f'<a href="{part_address(tag, number + 1)}">behind</a>')
    return "\n".join(rows)


def part_asked(site, tag, number):
    """What asks facts of the site for this part; refused with NoPart(tag, number)."""
    key = ("part", tag, number)
    if not is_key(key) or fact(site, key) is None:
        raise NoPart(own_copy(tag), own_copy(number))
    return Asked(site)


def part_text(site, tag, number):
    """The text of a part; refused with NoPart(tag, number)."""
    return part_made(part_asked(site, tag, number), tag, number)


def part_reads(site, tag, number):
    """The list of pairs (key, value) of all facts that a part reads; refused with NoPart(tag, number)."""
    asked = part_asked(site, tag, number)
    part_made(asked, tag, number)
    return asked.reads()

"""Pages filled by their templates, and what they read on the way; facts is what tells facts by ask(key)."""

from pagemaker.addresses import page_address
from pagemaker.asked import Asked
from pagemaker.errors import Fault, NoPage
from pagemaker.facts import fact
from pagemaker.marks import blocks_of, marked, targets_of
from pagemaker.roads import against_text, names_from, standing_against
from pagemaker.things import own_copy
from pagemaker.words import escaped, is_path

NOWHERE = "nowhere"


def against(site, name):
    """What stands against the template's name: (word, road or number), or None."""
    return standing_against(Asked(site), name)


def lead_address(facts, path):
    """The address to which the path leads, None where it leads nowhere."""
    led = facts.ask(("lead", path))
    return None if led is None else page_address(led)


def to_text(facts, path):
    """The address to which the path leads, a word of its own where it leads nowhere."""
    address = lead_address(facts, path)
    return NOWHERE if address is None else address


def body_text(facts, path):
    """The rows of the page as marked text."""
    blocks = blocks_of(facts.ask(("rows", path)))
    # A dict, as a path may be the target of several links and leads has none twice.
    addresses = {target: lead_address(facts, target) for target in targets_of(blocks)}
    return marked(blocks, list(addresses.items()))


def field_text(facts, word, path, inner):
    """A field of the page, of which inner is handed in."""
    if word == "inner":
        return inner
    if word == "path":
        return path
    if word == "body":
        return body_text(facts, path)
    if word == "title":
        return escaped(facts.ask(("title", path)))
    if word == "day":
        return str(facts.ask(("day", path)))
    return ", ".join(facts.ask(("tags", path)))


def piece_filled(facts, piece, path, inner):
    """A piece filled for the page."""
    word = piece[0]
    if word == "plain":
        return piece[1]
    if word == "field":
        return field_text(facts, piece[1], path, inner)
    if word == "use":
        return filled(facts, piece[1], path, "")
    if word == "pages":
        return "".join([filled(facts, piece[2], other, "") for other in facts.ask(("tag", piece[1]))])
    if word == "to":
        return to_text(facts, piece[1])
    return pieces_filled(facts, piece[2], path, inner) if piece[1] in facts.ask(("tags", path)) else ""


def pieces_filled(facts, pieces, path, inner):
    """The pieces filled for the page, one behind the other."""
    return "".join([piece_filled(facts, piece, path, inner) for piece in pieces])


def filled(facts, name, path, inner):
    """The template that is called so filled for the page, then what holds it."""
    holder, pieces = facts.ask(("template", name))
    text = pieces_filled(facts, pieces, path, inner)
    return text if holder == "" else filled(facts, holder, path, text)


def against_under(facts, path):
    """What stands against the page's under; under and all templates that it comes to are read ahead, in order."""
    under = facts.ask(("under", path))
    names_from(facts, under)
    return standing_against(facts, under)


def page_made(facts, path):
    """The pair (kind, text) of the page: a page, or a fault."""
    found = against_under(facts, path)
    if found is not None:
        return ("fault", against_text(found[0], found[1]))
    return ("page", filled(facts, facts.ask(("under", path)), path, ""))


def page_asked(site, path):
    """What asks facts of the site for the page there; refused with NoPage(path)."""
    if not is_path(path) or fact(site, ("under", path)) is None:
        raise NoPage(own_copy(path))
    return Asked(site)


def page_text(site, path):
    """The page there filled by its under; refused with NoPage(path), Fault(word, what)."""
    asked = page_asked(site, path)
    found = against_under(asked, path)
    if found is not None:
        raise Fault(found[0], found[1])
    return filled(asked, asked.ask(("under", path)), path, "")


def reads_of(site, path):
    """The list of pairs (key, value) of all facts that the page there reads; refused with NoPage(path)."""
    asked = page_asked(site, path)
    page_made(asked, path)
    return asked.reads()

"""Templates laid flat: the pieces of all that a template comes to in one tuple; facts is what tells facts by ask(key).

Sites are made by these in a second way, which keeps no inner text and goes by no calls while it fills.
"""

from pagemaker.asked import Asked
from pagemaker.errors import Fault
from pagemaker.filling import against_under, field_text, to_text
from pagemaker.made import place_made, places_of
from pagemaker.roads import against_text, standing_against


def joined(pieces):
    """The tuple of the pieces, plain ones that meet being one."""
    told = []
    for piece in pieces:
        if told and piece[0] == "plain" and told[-1][0] == "plain":
            told[-1] = ("plain", told[-1][1] + piece[1])
        else:
            told.append(piece)
    return tuple(told)


def laid_piece(facts, piece, inner):
    """The tuple of the pieces that stand in the place of this one."""
    word = piece[0]
    if piece == ("field", "inner"):
        return inner
    if word == "use":
        return laid(facts, piece[1], ())
    if word == "pages":
        return (("rows", piece[1], laid(facts, piece[2], ())),)
    if word == "when":
        return (("when", piece[1], laid_pieces(facts, piece[2], inner)),)
    return (piece,)


def laid_pieces(facts, pieces, inner):
    """The pieces laid out, one behind the other."""
    return joined([other for piece in pieces for other in laid_piece(facts, piece, inner)])


def laid(facts, name, inner):
    """The template that is called so laid out, by the laid out pieces that inner stands for, within what holds it."""
    holder, pieces = facts.ask(("template", name))
    told = laid_pieces(facts, pieces, inner)
    return told if holder == "" else laid(facts, holder, told)


def flat_of(site, name):
    """The tuple of the template's pieces laid out; refused with Fault(word, what)."""
    asked = Asked(site)
    found = standing_against(asked, name)
    if found is not None:
        raise Fault(found[0], found[1])
    return laid(asked, name, ())


def flat_piece_filled(facts, piece, path):
    """A laid out piece filled for the page."""
    word = piece[0]
    if word == "plain":
        return piece[1]
    if word == "field":
        return field_text(facts, piece[1], path, "")
    if word == "to":
        return to_text(facts, piece[1])
    if word == "rows":
        return "".join([flat_filled(facts, piece[2], other) for other in facts.ask(("tag", piece[1]))])
    return flat_filled(facts, piece[2], path) if piece[1] in facts.ask(("tags", path)) else ""


def flat_filled(facts, pieces, path):
    """The laid out pieces filled for the page, one behind the other."""
    return "".join([flat_piece_filled(facts, piece, path) for piece in pieces])


def flat_made(facts, place):
    """The pair (kind, text) of what is made at a place, a page by its under laid flat."""
    if place[0] != "page":
        return place_made(facts, place)
    path = place[1]
    found = against_under(facts, path)
    if found is not None:
        return ("fault", against_text(found[0], found[1]))
    return ("page", flat_filled(facts, laid(facts, facts.ask(("under", path)), ()), path))


def made_flat(site):
    """The made site, as made tells it, by templates laid flat."""
    asked = Asked(site)
    return sorted([(address,) + flat_made(asked, place) for address, place in places_of(site).items()])

"""Templates: pairs (holder, pieces)."""

from pagemaker.limits import FIELDS, PLAIN_SIGNS, TEMPLATE_PIECES, WHEN_DEEP
from pagemaker.words import is_name, is_path, is_text


def is_plain(thing):
    """Whether it is a text such as plain pieces have."""
    return is_text(thing, PLAIN_SIGNS) and thing != "" and "{" not in thing and "}" not in thing


def is_pair_piece(word, worth):
    """Whether (word, worth) is a piece."""
    if word == "plain":
        return is_plain(worth)
    if word == "field":
        return worth in FIELDS
    if word == "use":
        return is_name(worth)
    return word == "to" and is_path(worth)


def is_piece(thing, deep):
    """Whether it is a piece in which when stands at most so deep."""
    if not isinstance(thing, tuple):
        return False
    if len(thing) == 2:
        return is_pair_piece(thing[0], thing[1])
    if len(thing) != 3 or not is_name(thing[1]):
        return False
    if thing[0] == "pages":
        return is_name(thing[2])
    return thing[0] == "when" and deep > 0 and is_pieces(thing[2], deep - 1)


def is_pieces(thing, deep):
    """Whether it is a tuple of pieces, no two plain ones side by side, in which when stands at most so deep."""
    if not isinstance(thing, tuple) or not all([is_piece(piece, deep) for piece in thing]):
        return False
    return not any([one[0] == "plain" and other[0] == "plain" for one, other in zip(thing, thing[1:])])


def all_pieces(pieces):
    """The list of all pieces, each when ahead of those within it."""
    told = []
    for piece in pieces:
        told.append(piece)
        if piece[0] == "when":
            told.extend(all_pieces(piece[2]))
    return told


def is_template(thing):
    """Whether it is a template."""
    if not isinstance(thing, tuple) or len(thing) != 2:
        return False
    holder, pieces = thing
    if holder != "" and not is_name(holder):
        return False
    if not is_pieces(pieces, WHEN_DEEP):
        return False
    told = all_pieces(pieces)
    return len(told) <= TEMPLATE_PIECES and told.count(("field", "inner")) <= 1 and told.count(("field", "body")) <= 1


def calls_of(template):
    """The list of pairs (word, name) of all that the template calls, its holder first."""
    holder, pieces = template
    calls = [] if holder == "" else [("in", holder)]
    for piece in all_pieces(pieces):
        if piece[0] == "use":
            calls.append(("use", piece[1]))
        elif piece[0] == "pages":
            calls.append(("pages", piece[2]))
    return calls

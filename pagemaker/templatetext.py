"""Templates as texts: a row with the holder, and the pieces, all but plain ones as holes in braces."""

from pagemaker.errors import BadText
from pagemaker.limits import FIELDS, WHEN_DEEP
from pagemaker.templates import is_piece, is_template
from pagemaker.words import is_name

NO_HOLDER = "-"


def piece_text(piece):
    """The text of a piece."""
    if piece[0] == "plain":
        return piece[1]
    if piece[0] == "field":
        return "{" + piece[1] + "}"
    if piece[0] == "when":
        return "{when " + piece[1] + "}" + pieces_text(piece[2]) + "{done}"
    return "{" + " ".join(piece) + "}"


def pieces_text(pieces):
    """The texts of the pieces, one behind the other."""
    return "".join([piece_text(piece) for piece in pieces])


def template_text(template):
    """The text of a template."""
    holder, pieces = template
    name = NO_HOLDER if holder == "" else holder
    return f"in {name}\n" + pieces_text(pieces)


def holder_in(row):
    """The holder that the first row tells, None where it is no such row."""
    word, gap, name = row.partition(" ")
    if word != "in":
        return None
    if name == NO_HOLDER:
        return ""
    return name if is_name(name) else None


def run_end(text, at):
    """The place behind the run that begins there: a hole, a brace that ends none, or plain signs up to a brace."""
    if text[at] == "}":
        return at + 1
    if text[at] == "{":
        end = text.find("}", at)
        return len(text) if end < 0 else end + 1
    braces = [place for place in (text.find("{", at), text.find("}", at)) if place >= 0]
    return min(braces + [len(text)])


def runs_of(text, start):
    """The list of pairs (place, run) of all runs from start on."""
    runs = []
    at = start
    while at < len(text):
        end = run_end(text, at)
        runs.append((at, text[at:end]))
        at = end
    return runs


def hole_in(words):
    """The piece that the words of a hole tell, a when still with nothing in it; None where they tell none."""
    if words == ("done",):
        return words
    if len(words) == 1 and words[0] in FIELDS:
        return ("field", words[0])
    if len(words) == 2 and words[0] == "when" and is_name(words[1]):
        return ("when", words[1], ())
    return words if words[0] in ("use", "pages", "to") and is_piece(words, 0) else None


def piece_in(run):
    """The piece that a run tells, ("done",) of the end of a when; None where it tells none."""
    if run[0] not in ("{", "}"):
        return ("plain", run)
    if run[0] == "{" and run[-1] == "}":
        return hole_in(tuple(run[1:-1].split(" ")))
    return None


def is_barred(piece, deep):
    """Whether the piece can't stand within so many whens: a done too many, or a when too deep."""
    return (piece[0] == "done" and deep == 0) or (piece[0] == "when" and deep == WHEN_DEEP)


def pieces_in(text, start):
    """The tuple of the pieces from start on; refused with BadText(at)."""
    # Of each when that isn't done yet its place and tag; levels has one more, that of the template itself.
    whens = []
    levels = [[]]
    for at, run in runs_of(text, start):
        piece = piece_in(run)
        if piece is None or is_barred(piece, len(whens)):
            raise BadText(at)
        if piece[0] == "when":
            whens.append((at, piece[1]))
            levels.append([])
        elif piece[0] == "done":
            within = ("when", whens.pop()[1], tuple(levels.pop()))
            levels[-1].append(within)
        else:
            levels[-1].append(piece)
    if whens:
        raise BadText(whens[0][0])
    return tuple(levels[0])


def template_in(text):
    """The template whose text it is; refused with BadText(at)."""
    row, feed, rest = text.partition("\n")
    holder = holder_in(row)
    if feed == "" or holder is None:
        raise BadText(0)
    template = (holder, pieces_in(text, len(row) + 1))
    if not is_template(template):
        raise BadText(0)
    return template

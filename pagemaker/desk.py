"""A desk: rows of words that are done on a Maker, or asked of it, and a text in answer to each."""

from pagemaker.behind import source_behind, template_behind
from pagemaker.deeds import do_on
from pagemaker.errors import BadNumber, BadRow, NoAddress, NoName, NoPath, Taken, TooMany
from pagemaker.filling import against
from pagemaker.limits import DESK_NUMBER
from pagemaker.links import broken, rings
from pagemaker.maker import Maker
from pagemaker.roads import against_text
from pagemaker.words import is_name, is_path, number_in

# The words with which rows begin, each with the kinds of those that stand behind it.
FORMS = {
    "put": ("path", "number"), "hang": ("name", "number"), "drop": ("path",), "move": ("path", "path"),
    "unhang": ("name",), "today": ("number",), "most": ("number",), "undo": (), "make": (),
    "pages": (), "tags": (), "lead": ("path",), "page": ("address",), "broken": (), "rings": (),
    "against": ("name",), "built": (),
}
# What deeds of a Site are called here, and there.
DEEDS = {
    "put": "put", "hang": "hang", "drop": "drop", "move": "move", "unhang": "unhang",
    "today": "set_today", "most": "set_most",
}
NOTHING = "-"


def thing_in(kind, word):
    """What a word of this kind tells, None where it is no such word."""
    if kind == "path":
        return word if is_path(word) else None
    if kind == "name":
        return word if is_name(word) else None
    if kind == "address":
        return word if word != "" else None
    return number_in(word, DESK_NUMBER)


def command_in(row):
    """The tuple of a row's first word and of what the others tell; None where the row isn't so written."""
    first, *words = row.split(" ")
    if first not in FORMS or len(words) != len(FORMS[first]):
        return None
    things = [thing_in(kind, word) for kind, word in zip(FORMS[first], words)]
    return None if None in things else (first, *things)


def command_at(rows, at):
    """The pair of the command at this row and of how many rows it takes; refused with BadRow(row).

    In the place of how many rows a put or a hang has behind it stands what these tell.
    """
    command = command_in(rows[at])
    if command is None:
        raise BadRow(at)
    if command[0] not in ("put", "hang"):
        return (command, 1)
    word, name, many = command
    # A put or a hang of no rows is refused with all others: the empty text is neither's.
    thing = source_behind(rows, at, many) if word == "put" else template_behind(rows, at, many)
    if thing is None:
        raise BadRow(at)
    return ((word, name, thing), 1 + many)


def commands_in(text):
    """The list of all commands; refused with BadRow(row)."""
    rows = text.split("\n")
    commands = []
    at = 0
    while at < len(rows):
        many = 1
        if rows[at] != "":
            command, many = command_at(rows, at)
            commands.append(command)
        at += many
    return commands


def listed(words):
    """Several words in one text."""
    return " ".join(words) if words else NOTHING


def make_told(maker):
    """What make tells."""
    anew, gone = maker.make()
    words = [address if key is None else f"{address}:{key[0]}" for address, key in anew]
    return listed(words + [f"-{address}" for address in gone])


def site_told(site, command):
    """What the site tells when it's asked."""
    word = command[0]
    if word == "pages":
        return listed(site.pages())
    if word == "tags":
        return listed(site.tags())
    if word == "broken":
        return listed([f"{path}:{row}:{at}" for path, row, at, target in broken(site)])
    if word == "rings":
        return listed(rings(site))
    if word == "lead":
        led = site.lead(command[1])
        return NOTHING if led is None else led
    found = against(site, command[1])
    return NOTHING if found is None else against_text(found[0], found[1])


def told(maker, command):
    """What is told of a command; refused as the Maker refuses it."""
    word = command[0]
    if word in DEEDS:
        do_on(maker, (DEEDS[word],) + command[1:])
        return "done"
    if word == "undo":
        return "done" if maker.undo() else "nothing"
    if word == "make":
        return make_told(maker)
    if word == "page":
        kind, text = maker.page(command[1])
        return f"{kind} {len(text)}"
    if word == "built":
        return str(maker.built())
    return site_told(maker.site(), command)


def answer(maker, command):
    """The answer to a command; a refusal is one, too. No others are due, as all words are checked by now."""
    try:
        return told(maker, command)
    except BadNumber:
        return "refused BadNumber"
    except NoAddress:
        return "refused NoAddress"
    except NoName:
        return "refused NoName"
    except NoPath:
        return "refused NoPath"
    except Taken:
        return "refused Taken"
    except TooMany:
        return "refused TooMany"


def answers(text, *, today=0):
    """The list of the answers of a Maker to the rows of a text; refused with BadRow(row), ahead of all answers."""
    maker = Maker(today=today)
    return [answer(maker, command) for command in commands_in(text)]

"""Marks in rows: their parts, the blocks that rows make, and these as marked text."""

from pagemaker.errors import NoLead
from pagemaker.limits import HEAD_DEEP
from pagemaker.words import escaped, is_path


def strong_at(row, at):
    """The strong part that begins there, None where none does."""
    text, end, rest = row[at + 1:].partition("*")
    if row[at] == "*" and text != "" and end != "":
        return ("strong", text)
    return None


def link_at(row, at):
    """The link that begins there, None where none does."""
    text, middle, behind = row[at + 1:].partition("](")
    path, end, rest = behind.partition(")")
    if row[at] == "[" and text != "" and "]" not in text and end != "" and is_path(path):
        return ("link", text, path)
    return None


def mark_at(row, at):
    """The strong part or link that begins there, None where none does."""
    strong = strong_at(row, at)
    return link_at(row, at) if strong is None else strong


def signs_of(mark):
    """How many signs of its row a strong part or link takes, those around its texts counted."""
    if mark[0] == "strong":
        return len(f"*{mark[1]}*")
    return len(f"[{mark[1]}]({mark[2]})")


def marks_of(row):
    """The list of pairs (place, part) of all strong parts and links of a row, from the left."""
    told = []
    at = 0
    while at < len(row):
        mark = mark_at(row, at)
        if mark is None:
            at += 1
        else:
            told.append((at, mark))
            at += signs_of(mark)
    return told


def parts_of(row):
    """The list of the parts of a row."""
    told = []
    done = 0
    for at, mark in marks_of(row):
        if done < at:
            told.append(("plain", row[done:at]))
        told.append(mark)
        done = at + signs_of(mark)
    if done < len(row):
        told.append(("plain", row[done:]))
    return told


def head_of(row):
    """By how many # the row is a head, 0 where it's none."""
    many = len(row) - len(row.lstrip("#"))
    return many if 1 <= many <= HEAD_DEEP and row[many:].startswith(" ") else 0


def kind_of(row):
    """The word of the block to which the row goes, the empty text for an empty row."""
    if row == "":
        return ""
    if head_of(row) > 0:
        return "head"
    return "list" if row.startswith("- ") else "text"


def blocks_of(rows):
    """The list of the blocks that the rows make."""
    blocks = []
    kind_ahead = ""
    for row in rows:
        kind = kind_of(row)
        if kind == "head":
            many = head_of(row)
            blocks.append(("head", many, tuple(parts_of(row[many + 1:]))))
        elif kind != "":
            line = tuple(parts_of(row[2:] if kind == "list" else row))
            lines = blocks.pop()[1] if kind == kind_ahead else ()
            blocks.append((kind, lines + (line,)))
        kind_ahead = kind
    return blocks


def lines_of(block):
    """The tuple of the parts of each row of a block; a head has one."""
    return (block[2],) if block[0] == "head" else block[1]


def targets_of(blocks):
    """The list of all links' paths, in order."""
    lines = [line for block in blocks for line in lines_of(block)]
    return [part[2] for line in lines for part in line if part[0] == "link"]


def marked_part(part, addresses):
    """A part as marked text; a link whose path isn't in addresses is as one that leads nowhere."""
    text = escaped(part[1])
    if part[0] == "plain":
        return text
    if part[0] == "strong":
        return f"<b>{text}</b>"
    address = addresses.get(part[2])
    return f"<s>{text}</s>" if address is None else f'<a href="{address}">{text}</a>'


def marked_block(block, addresses):
    """A block as marked text."""
    lines = ["".join([marked_part(part, addresses) for part in line]) for line in lines_of(block)]
    if block[0] == "head":
        return f"<h{block[1]}>{lines[0]}</h{block[1]}>"
    if block[0] == "list":
        return "\n".join(["<ul>"] + [f"<li>{line}</li>" for line in lines] + ["</ul>"])
    told = "\n".join(lines)
    return f"<p>{told}</p>"


def marked(blocks, leads, *, strict=True):
    """The blocks as marked text, links by leads; refused with NoLead(path)."""
    addresses = {path: address for path, address in leads}
    for target in targets_of(blocks):
        if strict and target not in addresses:
            raise NoLead(target)
    return "\n".join([marked_block(block, addresses) for block in blocks])

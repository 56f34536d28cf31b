"""Sources as texts: a head, a row for each part that isn't bare, and the source's own rows."""

from pagemaker.errors import BadRow
from pagemaker.limits import LAST_DAY, PAGE, SOURCE_ROWS
from pagemaker.sources import is_olds, is_row, is_tags, is_title
from pagemaker.words import is_name, number_in

# The words of the head's rows, each at its part's place in the source.
HEADS = ("title", "day", "draft", "tags", "under", "old")


def source_text(source):
    """The text of a source."""
    title, day, draft, tags, under, olds, rows = source
    told = [f"title {title}"]
    if day > 0:
        told.append(f"day {day}")
    if draft:
        told.append("draft")
    if tags:
        told.append(" ".join(("tags",) + tags))
    if under != PAGE:
        told.append(f"under {under}")
    if olds:
        told.append(" ".join(("old",) + olds))
    if rows:
        told.append("")
        told.extend(rows)
    return "\n".join(told)


def value_in(row):
    """What a row of the head tells, None where it is no such row."""
    word, gap, rest = row.partition(" ")
    words = tuple(rest.split(" "))
    if word == "title" and is_title(rest):
        return rest
    if word == "day" and rest != "0":
        return number_in(rest, LAST_DAY)
    if row == "draft":
        return True
    if word == "tags" and is_tags(words):
        return words
    if word == "under" and is_name(rest) and rest != PAGE:
        return rest
    if word == "old" and is_olds(words):
        return words
    return None


def place_in(row):
    """The place of the part that a row of the head tells, -1 where it is no such row."""
    return -1 if value_in(row) is None else HEADS.index(row.partition(" ")[0])


def head_end(rows):
    """How many rows the head has; refused with BadRow(row)."""
    if place_in(rows[0]) != 0:
        raise BadRow(0)
    at = 1
    while at < len(rows) and rows[at] != "":
        if place_in(rows[at]) <= place_in(rows[at - 1]):
            raise BadRow(at)
        at += 1
    return at


def head_parts(head):
    """The list of the parts that the rows of a head tell."""
    # What the parts are where no row tells of them.
    parts = ["", 0, False, (), PAGE, ()]
    for row in head:
        parts[place_in(row)] = value_in(row)
    return parts


def own_rows(rows, end):
    """The tuple of the source's own rows, behind the head and an empty row; refused with BadRow(row)."""
    first = end + 1
    if first == len(rows):
        raise BadRow(first)
    for at in range(first, len(rows)):
        if at == first + SOURCE_ROWS or not is_row(rows[at]):
            raise BadRow(at)
    return tuple(rows[first:])


def source_in(text):
    """The source whose text it is; refused with BadRow(row), the first with which no such text goes on."""
    rows = text.split("\n")
    end = head_end(rows)
    parts = head_parts(rows[:end])
    parts.append(own_rows(rows, end) if end < len(rows) else ())
    return tuple(parts)

"""Texts in rows behind a row that tells how many they are."""

from pagemaker.errors import BadRow, BadText
from pagemaker.sourcetext import source_in
from pagemaker.templatetext import template_in


def text_behind(rows, at, many):
    """The text that so many rows behind this one are; where they aren't there the empty one, which is no such text."""
    first = at + 1
    return "\n".join(rows[first:first + many]) if first + many <= len(rows) else ""


def source_behind(rows, at, many):
    """The source whose text so many rows behind this one are, None where they're none."""
    try:
        return source_in(text_behind(rows, at, many))
    except BadRow:
        return None


def template_behind(rows, at, many):
    """The template whose text so many rows behind this one are, None where they're none."""
    try:
        return template_in(text_behind(rows, at, many))
    except BadText:
        return None

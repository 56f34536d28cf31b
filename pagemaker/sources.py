"""Sources: tuples (title, day, draft, tags, under, olds, rows)."""

from pagemaker.errors import BadSource
from pagemaker.limits import PAGE, ROW_SIGNS, SOURCE_OLDS, SOURCE_ROWS, SOURCE_TAGS, TITLE_SIGNS
from pagemaker.words import is_day, is_line, is_name, is_path

PARTS = ("title", "day", "draft", "tags", "under", "olds", "rows")


def is_title(thing):
    """Whether it is a text of 1 to 40 signs, no blank first or last."""
    return is_line(thing, TITLE_SIGNS) and thing != "" and thing[0] != " " and thing[-1] != " "


def is_rising(words):
    """Whether each word is greater than the one ahead, so that none stands twice."""
    return all([one < other for one, other in zip(words, words[1:])])


def is_tags(thing):
    """Whether it is a rising tuple of at most 3 NAMEs."""
    if not isinstance(thing, tuple) or len(thing) > SOURCE_TAGS:
        return False
    return all([is_name(name) for name in thing]) and is_rising(thing)


def is_olds(thing):
    """Whether it is a rising tuple of at most 6 PATHs."""
    if not isinstance(thing, tuple) or len(thing) > SOURCE_OLDS:
        return False
    return all([is_path(path) for path in thing]) and is_rising(thing)


def is_row(thing):
    """Whether it is a text of at most 50 signs, no line feed among them."""
    return is_line(thing, ROW_SIGNS)


def is_rows(thing):
    """Whether it is a tuple of at most 8 rows."""
    if not isinstance(thing, tuple) or len(thing) > SOURCE_ROWS:
        return False
    return all([is_row(row) for row in thing])


def wrong_part(thing):
    """The word of the first part that isn't so, tuple where it's no tuple of seven, None of a source."""
    if not isinstance(thing, tuple) or len(thing) != len(PARTS):
        return "tuple"
    title, day, draft, tags, under, olds, rows = thing
    so = [
        is_title(title), is_day(day), isinstance(draft, bool), is_tags(tags),
        is_name(under), is_olds(olds), is_rows(rows),
    ]
    return None if all(so) else PARTS[so.index(False)]


def is_source(thing):
    """Whether it is a source."""
    return wrong_part(thing) is None


def risen(words, is_word):
    """The words rising, each once; what is no tuple of such words is left as it is, for wrong_part to find."""
    if isinstance(words, tuple) and all([is_word(word) for word in words]):
        return tuple(sorted(set(words)))
    return words


def source_of(title, *, day=0, draft=False, tags=(), under=PAGE, olds=(), rows=()):
    """The source of these parts, tags and olds in any order; refused with BadSource(part)."""
    source = (title, day, draft, risen(tags, is_name), under, risen(olds, is_path), rows)
    part = wrong_part(source)
    if part is not None:
        raise BadSource(part)
    return source

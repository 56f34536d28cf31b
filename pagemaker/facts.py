"""Facts of a site, each by its key."""

from pagemaker.errors import BadKey
from pagemaker.things import own_copy
from pagemaker.words import is_name, is_number, is_path

# The words of keys that ask for a part of a page's source, and that part's place there.
PAGE_PARTS = {"title": 0, "day": 1, "tags": 3, "under": 4, "rows": 6}
PATH_WORDS = ("title", "day", "tags", "under", "rows", "lead")
NAME_WORDS = ("template", "tag")


def is_key(thing):
    """Whether it is a key of a fact."""
    if not isinstance(thing, tuple):
        return False
    if len(thing) == 3:
        return thing[0] == "part" and is_name(thing[1]) and is_number(thing[2]) and thing[2] >= 1
    if len(thing) != 2:
        return False
    return (thing[0] in PATH_WORDS and is_path(thing[1])) or (thing[0] in NAME_WORDS and is_name(thing[1]))


def part_fact(site, tag, number):
    """The pair of the tuple of a part's paths and how many parts the tag has; None where there's no such part."""
    paths = site.pages_of(tag)
    most = site.most()
    many = (len(paths) + most - 1) // most
    if number > many:
        return None
    return (tuple(paths[(number - 1) * most:number * most]), many)


def page_fact(site, word, path):
    """That part of the source of the page there, None where there's no page."""
    return site.source(path)[PAGE_PARTS[word]] if path in site.pages() else None


def template_fact(site, name):
    """The template that is called so, None where there's none."""
    return site.template(name) if name in site.names() else None


def fact(site, key):
    """The fact of this key; refused with BadKey(key)."""
    if not is_key(key):
        raise BadKey(own_copy(key))
    word = key[0]
    if word == "part":
        return part_fact(site, key[1], key[2])
    if word == "template":
        return template_fact(site, key[1])
    if word == "tag":
        return tuple(site.pages_of(key[1]))
    if word == "lead":
        return site.lead(key[1])
    return page_fact(site, word, key[1])

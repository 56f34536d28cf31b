"""Addresses of pages and of parts."""

from pagemaker.words import figures_in, is_name, is_path


def page_address(path):
    """The address of the page at the path."""
    return f"/{path}"


def part_address(tag, number):
    """The address of a part; the first one has no number in it."""
    return f"/tag/{tag}" if number == 1 else f"/tag/{tag}/{number}"


def part_in(words):
    """("part", tag, number) of the words behind the first one in a part's address, None where they tell none."""
    if len(words) == 1 and is_name(words[0]):
        return ("part", words[0], 1)
    if len(words) != 2 or not is_name(words[0]):
        return None
    number = figures_in(words[1])
    # The first part has an address of its own, with no number in it.
    return None if number is None or number < 2 else ("part", words[0], number)


def place_in(address):
    """("page", path) or ("part", tag, number) of an address, None of any thing that is none."""
    if not isinstance(address, str) or not address.startswith("/"):
        return None
    path = address[1:]
    if is_path(path):
        return ("page", path)
    first, *words = path.split("/")
    return part_in(words) if first == "tag" else None

"""Addresses of pages and of parts."""


def page_address(path):
    """The address of the page at the path."""
    return f"/{path}"


def part_address(tag, number):
    """The address of a part; the first one has no number in it."""
    return f"/tag/{tag}" if number == 1 else f"/tag/{tag}/{number}"

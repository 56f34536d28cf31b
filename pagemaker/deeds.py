"""Deeds told as tuples: a word, and all that it is handed."""

# The words of deeds, each with how many things it is handed.
HANDED = {
    "put": 2, "drop": 1, "move": 2, "hang": 2, "unhang": 1, "set_today": 1, "set_most": 1,
    "undo": 0, "make": 0, "do": 2,
}


def is_row_of_deeds(deeds, whole):
    """Whether ("do", deeds, whole) is a deed."""
    return isinstance(deeds, list) and isinstance(whole, bool) and wrong_deed(deeds) is None


def is_deed(thing):
    """Whether it is a deed, by its word and how many things there are; of do by all that is within, too."""
    if not isinstance(thing, tuple) or thing == () or not isinstance(thing[0], str):
        return False
    word = thing[0]
    if word not in HANDED or len(thing) != 1 + HANDED[word]:
        return False
    return word != "do" or is_row_of_deeds(thing[1], thing[2])


def wrong_deed(deeds):
    """The place of the first of them that is no deed, None where all are deeds."""
    for at, deed in enumerate(deeds):
        if not is_deed(deed):
            return at
    return None


def do_on(site, deed):
    """One of the deeds that a Site has is done on it, or on a Maker, which has these, too; refused as there."""
    word = deed[0]
    if word == "put":
        site.put(deed[1], deed[2])
    elif word == "drop":
        site.drop(deed[1])
    elif word == "move":
        site.move(deed[1], deed[2])
    elif word == "hang":
        site.hang(deed[1], deed[2])
    elif word == "unhang":
        site.unhang(deed[1])
    elif word == "set_today":
        site.set_today(deed[1])
    else:
        site.set_most(deed[1])

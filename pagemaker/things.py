"""Things: what may be handed in where any thing may."""


def own_copy(thing):
    """The same thing with lists of its own, so that an error that keeps it doesn't see the handed one changed."""
    if isinstance(thing, list):
        return [own_copy(part) for part in thing]
    if isinstance(thing, tuple):
        return tuple([own_copy(part) for part in thing])
    return thing


def is_same(one, other):
    """Whether two things are the same, kind by kind: neither is True as 1, nor a list as a tuple."""
    if isinstance(one, (list, tuple)) and isinstance(other, (list, tuple)):
        alike = isinstance(one, list) == isinstance(other, list) and len(one) == len(other)
        return alike and all([is_same(mine, theirs) for mine, theirs in zip(one, other)])
    return isinstance(one, bool) == isinstance(other, bool) and one == other

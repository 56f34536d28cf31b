"""Things: what may be handed in where any thing may."""


def own_copy(thing):
    """The same thing with lists of its own, so that an error that keeps it doesn't see the handed one changed."""
    if isinstance(thing, list):
        return [own_copy(part) for part in thing]
    if isinstance(thing, tuple):
        return tuple([own_copy(part) for part in thing])
    return thing

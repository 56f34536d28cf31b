"""Things of every kind that [2] has, for what is asked of any thing."""


def deep_list(deep):
    """A list, so many deep."""
    return [] if deep == 1 else [deep_list(deep - 1)]


def deep_tuple(deep):
    """A tuple, so many deep."""
    return () if deep == 1 else (deep_tuple(deep - 1),)


# No NAME, PATH, source or template is among them.
OTHER_THINGS = (
    0, 1, -1, 7, 10 ** 30, True, False, None, "", "\n", " ", "{", "A", "a b", "a\n",
    [], ["a"], ["a", "b"], [None, [1]], (), ("a",), ("a", "b"), (None, (1, True)), (1, 2, 3, 4, 5, 6, 7),
    ["a"] * 7, (["a"],) * 7, deep_list(12), deep_tuple(12),
)

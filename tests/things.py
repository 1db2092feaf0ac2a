"""Things of every kind, for what is told of whatever it is."""


def nested(depth):
    """A tuple within a tuple, so many deep."""
    thing = ()
    for _ in range(depth - 1):
        thing = (thing,)
    return thing


# None of these is a line, a source, a name, a number or anything else told.
STRANGE = (
    None, True, False, [], {}, [""], ["abc"], [[]], {"abc": 1}, {1: "abc"}, {(): ()},
    {"": None}, ((),), ("a", 1), (None,), (True,), ([],), ({},), nested(12),
    10 ** 99, -(10 ** 99), [10 ** 99], "\n", "a\tb", "\t", "a\n", ("a\n",), ("abc", ["abc"]),
)

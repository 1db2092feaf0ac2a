"""Traps at places of a page: a tuple of tuples (place, name)."""


def name_at(traps, place, length):
    """The name of the trap that is seen at a place from the top, or None."""
    for laid, name in reversed(traps):
        if from_top(laid, length) == place:
            return name
    return None


def next_place(traps, place, length):
    """The next place behind this one where some trap is, or the length."""
    places = [from_top(laid, length) for laid, _ in traps]
    return min([laid for laid in places if place < laid < length], default=length)


def with_trap(traps, place, name):
    """The traps with this one laid last; told just so before, it goes first."""
    others = [trap for trap in traps if trap != (place, name)]
    return (*others, (place, name))


def without_trap(traps, place, length):
    """The traps without the one that is seen at the place, if there is one."""
    top = from_top(place, length)
    for at in range(len(traps) - 1, -1, -1):
        if from_top(traps[at][0], length) == top:
            return traps[:at] + traps[at + 1:]
    return traps


def from_top(place, length):
    return place if place >= 0 else length + place

"""Whole numbers: of things, and by the figures of a part."""

MOST_FIGURES = 4


def is_whole(thing, least, most):
    """Whether the thing is a whole number from least to most; a truth is none."""
    return isinstance(thing, int) and not isinstance(thing, bool) and least <= thing <= most


def number_of(part):
    """The number by its figures, at most four; None of what is none."""
    return int(part) if part.isdigit() and len(part) <= MOST_FIGURES else None


def signed_of(part):
    """The number by its figures, perhaps with a sign; None of what is none."""
    if not has_sign(part):
        return number_of(part)
    number = number_of(part[1:])
    if number is None:
        return None
    return -number if part[0] == "-" else number


def moved(part, stands):
    """The number, or that much more or less than what stands; None of none."""
    number = signed_of(part)
    if number is None:
        return None
    return stands + number if has_sign(part) else number


def has_sign(part):
    """Whether the part begins with a plus or a minus."""
    return part[:1] in ("+", "-")

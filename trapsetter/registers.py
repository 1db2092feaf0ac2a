"""Values of registers: their ends, their forms and their steps."""

FORMS = ("1", "01", "a", "i")

LETTERS = "abcdefghijklmnopqrstuvwxyz"
ROMAN_ONES = ("", "i", "ii", "iii", "iv", "v", "vi", "vii", "viii", "ix")


def clamped(value, *, least=-9999, most=9999):
    """The value, or the end beyond which it lies."""
    return max(least, min(value, most))


def shown(value, form):
    """The value as a text in the form."""
    if form == "01":
        return _two_figures(value)
    if form == "a" and 1 <= value <= 26:
        return LETTERS[value - 1]
    if form == "i" and 1 <= value <= 39:
        return "x" * (value // 10) + ROMAN_ONES[value % 10]
    return str(value)


def stepped(told):
    """The (value, step, form) that is told, one step further."""
    value, step, form = told
    return clamped(value + step), step, form


def _two_figures(value):
    # The sign is no figure, so it is not counted among the two.
    sign = "-" if value < 0 else ""
    return f"{sign}{abs(value):02d}"

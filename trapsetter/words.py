"""Words of a line, their cells and pieces, and the cells of a plain line."""

MARK = "\\-"
TAB = "\\t"
STROKE = "\\\\"


def words_of(line):
    """The words of the line, with marks and strokes as they stand."""
    words = []
    word = ""
    for token in [*_tokens(line), " "]:
        if token in (" ", TAB):
            if cells_of(word):
                words.append(word)
            word = ""
        else:
            word += token
    return words


def cells_of(word):
    """The cells of the word: no marks, two strokes as one."""
    return "".join([_cell(token) for token in _tokens(word)])


def pieces_of(word):
    """What the marks part the word into, with strokes as they stand."""
    pieces = [""]
    for token in _tokens(word):
        if token == MARK:
            pieces.append("")
        else:
            pieces[-1] += token
    return pieces


def plain_cells(line, stops):
    """The cells of the line set plainly, its tabs led to the stops."""
    cells = ""
    for token in _tokens(line):
        if token == TAB:
            cells = cells.ljust(_stop_beyond(len(cells), stops))
        else:
            cells += _cell(token)
    return cells


def _tokens(text):
    # From the left, since of three strokes it is the first two that are one.
    tokens = []
    at = 0
    while at < len(text):
        size = 2 if text[at:at + 2] in (MARK, TAB, STROKE) else 1
        tokens.append(text[at:at + size])
        at += size
    return tokens


def _cell(token):
    if token == MARK:
        return ""
    if token == STROKE:
        return "\\"
    return token


def _stop_beyond(column, stops):
    for stop in stops:
        if stop > column:
            return stop
    return column + 1

"""Rows of a source, made once, by which a machine sets it."""

from trapsetter.lines import is_request, rest_of, word_of
from trapsetter.words import words_of

STROKE_SIGN = "\\"


def rows_of(source):
    """A row for each line: ("text", line, words), ("ask", word, rest) or ("line", line)."""
    return [_row_of(line) for line in source]


def _row_of(line):
    # With a stroke it hangs on what stands when it is read.
    if STROKE_SIGN in line:
        return "line", line
    if is_request(line):
        return "ask", word_of(line), rest_of(line)
    return "text", line, tuple(words_of(line))

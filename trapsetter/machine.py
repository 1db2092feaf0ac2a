"""A machine that sets a source by rows, those of its macros too."""

from trapsetter.rows import rows_of
from trapsetter.state import State
from trapsetter.walking import do_line, do_request, do_text, walk, with_put_in


def run_by_rows(source, length):
    """The pages of a source, and its faults."""
    rows = rows_of(source)

    def by_row(state, number):
        _do_row(state, rows[number])

    state = State(length, by_row)
    walk(state, source)
    return state.ended, state.told_faults


def _do_row(state, row):
    if row[0] == "text":
        do_text(state, row[1], row[2])
    elif row[0] == "ask":
        do_request(state, row[1], row[2])
    else:
        do_line(state, with_put_in(state, row[1]))

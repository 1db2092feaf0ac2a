"""A desk, which is told lines of text and answers by them."""

from trapsetter.errors import NoPage, NoSource, NoText, Over
from trapsetter.lines import are_signs
from trapsetter.setter import Setter

FIRST_LENGTH = 10

FIGURES = "0123456789"
MOST_FIGURES = 4


class Desk:
    """A setter that is spoken to."""

    def __init__(self):
        self._setter = Setter(FIRST_LENGTH)

    def say(self, text):
        """The answer to a line; NoText of what is none."""
        if not isinstance(text, str) or "\n" in text:
            raise NoText(None)
        word, blank, rest = text.partition(" ")
        try:
            if blank:
                return self._answer_with(word, rest)
            return self._answer_alone(word)
        except NoSource:
            return "refused NoSource"
        except NoPage:
            return "refused NoPage"
        except Over:
            return "refused Over"

    def _answer_alone(self, word):
        if word == "line":
            return self._read("")
        if word == "here":
            return _joined(self._setter.stands())
        if word == "faults":
            return _joined([_fault_text(fault) for fault in self._setter.faults()])
        if word == "end":
            self._setter.end()
            return str(len(self._setter.pages()))
        raise NoText(None)

    def _answer_with(self, word, rest):
        if word == "line":
            return self._read(rest)
        if word == "value" and _is_told_name(rest):
            return self._setter.value(rest)
        if word == "page" and _is_told_number(rest):
            return _joined(self._setter.page(int(rest)))
        if word == "fresh" and _is_told_number(rest):
            self._setter = Setter(int(rest))
            return "ok"
        raise NoText(None)

    def _read(self, line):
        self._setter.read(line)
        return str(len(self._setter.pages()))


def _joined(texts):
    return " / ".join(texts) if texts else "-"


def _fault_text(fault):
    line, calls, word = fault
    names = ",".join(calls) if calls else "-"
    return f"{line} {names} {word}"


def _is_told_name(text):
    return text != "" and " " not in text and are_signs(text)


def _is_told_number(text):
    """One to four figures, no nought ahead but in 0."""
    if not 1 <= len(text) <= MOST_FIGURES or not all([sign in FIGURES for sign in text]):
        return False
    return text == "0" or not text.startswith("0")

"""Texts as lines, and the words of deeds."""

from rulerchest.tools import is_deed

WAYS = {"1": 1, "2": 2}


def lines_of(text):
    """The lines of a text; an empty one has none."""
    return [] if text == "" else text.split("\n")


def text_of(lines):
    """The text with these lines."""
    return "\n".join(lines)


def deed_text(deed):
    """The word, the names and the way of a deed."""
    return " ".join([str(item) for item in deed])


def deed_of_words(words):
    """The deed with these words, None if they are none."""
    deed = tuple(words)
    if len(words) > 0 and words[-1] in WAYS:
        deed = deed[:-1] + (WAYS[words[-1]],)
    return deed if is_deed(deed) else None

"""Deeds written as rows."""

from tracklay.errors import NoDeed
from tracklay.nets import LONGEST_BITS, is_bits, is_name

FIGURES = "0123456789"
LONGEST_NUMBER = 2
LONGEST_ROW = 4
NO_ROW = "-"
MOST_PINS = 3


def deed_text(deed):
    """The row that writes a deed."""
    if deed[0] == "gate":
        return " ".join(list(deed[:3]) + list(deed[3]))
    if deed[0] == "cycle":
        return f"cycle {deed[1] or NO_ROW}"
    return " ".join([str(part) for part in deed])


def deed_of(text):
    """The deed that a row writes, whether or not a bench would do it."""
    words = text.split(" ")
    parts = parts_of(words)
    if None in parts:
        raise NoDeed("no row of a deed")
    if words[0] == "gate":
        return (parts[0], parts[1], parts[2], tuple(parts[3:]))
    return tuple(parts)


def parts_of(words):
    """The word of a deed and what the words behind it write; None stands for what isn't so written."""
    forms = forms_of(words)
    if forms is None or len(forms) != len(words) - 1:
        return [None]
    parts = [words[0]]
    for form, word in zip(forms, words[1:]):
        reader = READERS[form]
        parts.append(reader(word))
    return parts


def forms_of(words):
    """The forms of the words behind a deed's first one, or None."""
    if words[0] == "gate":
        return ("name", "bits") + ("name",) * min(MOST_PINS, max(0, len(words) - 3))
    return FORMS.get(words[0], None)


def name_of_word(word):
    """The name that a word is, or None."""
    return word if is_name(word) else None


def bits_of_word(word):
    """The one to eight bits that a word is, or None."""
    return word if 1 <= len(word) <= LONGEST_BITS and is_bits(word) else None


def bit_of_word(word):
    """The one bit that a word is, or None."""
    return word if word in ("0", "1") else None


def row_of_word(word):
    """The row of inputs that a word writes, or None."""
    if word == NO_ROW:
        return ""
    return word if 1 <= len(word) <= LONGEST_ROW and is_bits(word) else None


def number_of_word(word):
    """The number that one or two figures write, without a needless 0, or None."""
    if not 1 <= len(word) <= LONGEST_NUMBER or not all([sign in FIGURES for sign in word]):
        return None
    if word[0] == "0" and len(word) > 1:
        return None
    return int(word)


READERS = {
    "name": name_of_word,
    "bits": bits_of_word,
    "bit": bit_of_word,
    "row": row_of_word,
    "number": number_of_word,
}

# The forms of the words behind a deed's first one; a gate's hang on how many pins there are.
FORMS = {
    "input": ("name",),
    "register": ("name", "bit", "name"),
    "output": ("name", "name"),
    "bits": ("name", "bits"),
    "wire": ("name", "number", "name"),
    "drop": ("name",),
    "peg": ("name", "number"),
    "free": ("name",),
    "lay": (),
    "cycle": ("row",),
}


def page_rows(slots, tracks, deeds):
    """The rows of a bench's page."""
    return [f"bench {slots} {tracks}"] + [deed_text(deed) for deed in deeds]

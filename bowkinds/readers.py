"""What has a text: bows, rows, kinds, layerings and papers are read [102]."""

from bowkinds.errors import NoText
from bowkinds.kinds import Kind
from bowkinds.rows import Row
from bowkinds.values import are_bows, are_directions, are_ways, is_ascending, is_bow

MOST_DIGITS = 40


def read_bow(text):
    """Return the bow that has this text."""
    bow = bow_in(_first_line(text))
    _check(bow, text)
    return bow


def read_row(text):
    """Return the Row that has this text."""
    bows = _bows_in(_first_line(text))
    _check(bows, text)
    return Row(bows)


def read_kind(text):
    """Return the Kind that has this text."""
    ways = _members_in(_first_line(text), ",")
    _check(ways if are_ways(ways) and is_ascending(ways) else None, text)
    return Kind(ways)


def read_layering(text):
    """Return the list of lists of numbers that has this text."""
    parts = _members_in(_first_line(text), ";")
    layers = [[number_in(word) for word in part.split(",")] for part in parts]
    _check(layers if not any([None in layer for layer in layers]) else None, text)
    return layers


def read_paper(text):
    """Return the tuple of the form of a paper that has this text."""
    paper = _paper_in(_first_line(text))
    _check(paper, text)
    return paper


def number_in(word):
    """Return the number that a word tells, or None."""
    if len(word) > MOST_DIGITS or not all([sign in "0123456789" for sign in word]):
        return None
    if word == "" or word != "0" and word.startswith("0"):
        return None
    return int(word)


def bow_in(word):
    """Return the bow that a word tells, or None."""
    ends = tuple([_place_in(part) for part in word.split(":")])
    return ends if is_bow(ends) else None


def _first_line(text):
    if not isinstance(text, str):
        raise NoText(0)
    return text.split("\n")[0]


def _check(told, text):
    """Raise the error if the first line tells nothing, or there is a second one."""
    if told is None:
        raise NoText(1)
    if "\n" in text:
        raise NoText(2)


def _members_in(line, sign):
    return [] if line == "-" else line.split(sign)


def _place_in(word):
    if not word.startswith("-"):
        return number_in(word)
    number = number_in(word[1:])
    # Nought has no sign.
    return -number if number is not None and number > 0 else None


def _bows_in(line):
    bows = [bow_in(word) for word in _members_in(line, " ")]
    return bows if are_bows(bows) else None


def _paper_in(line):
    form, _, rest = line.partition(" ")
    if form in ("chains", "levels"):
        directions = _members_in(rest, ",")
        return (form, directions) if are_directions(directions) else None
    if form == "ends":
        return (form, rest) if rest in ("kept", "lacked") else None
    bows = _bows_in(rest)
    return (form, bows) if form == "ring" and bows is not None and len(bows) == 5 else None

"""A desk, which does what lines say about a row and a kind [104]."""

from bowkinds.book import EDITS, Book
from bowkinds.bows import direction_of, way_of
from bowkinds.errors import NoCommand
from bowkinds.fewest import crowd_of, fewest_layers, layering_of
from bowkinds.notation import show_bow, show_kind, show_layer, show_layering, show_paper, show_picture, show_row
from bowkinds.readers import bow_in, number_in
from bowkinds.rounds import round_of, two_layers
from bowkinds.tight import is_tight, paper_of
from bowkinds.values import is_bow, is_way

# The words of the questions about the row and the kind, which stand alone, and
# of those about two bows.
QUESTIONS = ("row", "kind", "plain", "picture", "tight", "paper", "fewest", "layers", "crowd", "two")
PAIR_QUESTIONS = ("way", "direction", "together")


class Desk:
    """Keeps a Book of a row and a kind, and does what lines say."""

    def __init__(self, row, kind):
        self._book = Book(row, kind)

    def execute(self, line):
        """Do what a line says, and return what it tells."""
        word, values = _told(line)
        if _is_edit_word(word):
            self._book.do((word, *values))
            return str(len(self._book.row))
        if word == "back":
            return _line_of(self._book.back())
        if word == "again":
            return _line_of(self._book.again())
        if word in PAIR_QUESTIONS:
            return _pair_answer(word, self._book.row, self._book.kind, values)
        return _answer(word, self._book.row, self._book.kind)

    def book(self):
        """Return a copy of the Book."""
        return self._book.copied()


def _told(line):
    """Return the word of a line and the list of the values behind it."""
    if not isinstance(line, str):
        raise NoCommand()
    words = line.split(" ")
    forms = _forms_behind(words[0])
    if forms is None or len(words) != len(forms) + 1:
        raise NoCommand()
    values = [_value_in(forms[at], words[at + 1]) for at in range(len(forms))]
    if None in values:
        raise NoCommand()
    return (words[0], values)


def _is_edit_word(word):
    # The line "row" asks for the text of the row, it does no edit.
    return word in EDITS and word != "row"


def _forms_behind(word):
    if _is_edit_word(word):
        return EDITS[word]
    if word in PAIR_QUESTIONS:
        return ("index", "index")
    return () if word in QUESTIONS or word in ("back", "again") else None


def _value_in(form, word):
    if form == "bow":
        return bow_in(word)
    if form == "index":
        return number_in(word)
    return word if is_way(word) else None


def _line_of(edit):
    return " ".join([show_bow(part) if is_bow(part) else str(part) for part in edit])


def _pair_answer(word, row, kind, indexes):
    one, other = [row[index] for index in indexes]
    if word == "way":
        return way_of(one, other)
    if word == "direction":
        return direction_of(one, other)
    return _yes_or_no(kind.lets(one, other))


def _answer(word, row, kind):
    if word == "row":
        return show_row(row)
    if word == "kind":
        return show_kind(kind)
    if word == "plain":
        return show_row(row.plain())
    if word == "picture":
        return show_picture(row)
    if word == "tight":
        return _yes_or_no(is_tight(kind))
    if word == "paper":
        return show_paper(paper_of(kind))
    if word == "fewest":
        return str(fewest_layers(row, kind))
    if word == "layers":
        return show_layering(layering_of(row, kind))
    if word == "crowd":
        return show_layer(crowd_of(row, kind))
    return _two(row, kind)


def _two(row, kind):
    layers = two_layers(row, kind)
    if layers is None:
        return f"round {show_layer(round_of(row, kind))}"
    return show_layering(layers)


def _yes_or_no(truth):
    return "yes" if truth else "no"

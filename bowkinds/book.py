"""Books of a row and a kind, with the edits that were done [103]."""

from bowkinds.errors import BadEdit, Nothing, Wrong
from bowkinds.kinds import Kind
from bowkinds.rows import Row, row_of
from bowkinds.values import are_bows, is_bow, is_integer, is_way

# The word of each edit, with what stands behind it in the tuple.
EDITS = {
    "put": ("bow",),
    "out": ("index",),
    "bow": ("index", "bow"),
    "row": ("bows",),
    "let": ("way",),
    "bar": ("way",),
    "turn": (),
}


class Book:
    """A row and a kind that edits change; edits can be undone and done again."""

    def __init__(self, row, kind):
        if not isinstance(row, Row):
            raise Wrong(0)
        if not isinstance(kind, Kind):
            raise Wrong(1)
        # The rows and kinds ahead of each edit that stands, then those now.
        self._rows = (row_of(row.bows()),)
        self._kinds = (Kind(kind.ways()),)
        self._log = ()
        self._undone = ()

    def __eq__(self, other):
        if not isinstance(other, Book) or self._log != other._log:
            return False
        return self._rows[0] == other._rows[0] and self._kinds[0] == other._kinds[0]

    def __len__(self):
        return len(self._log)

    def __iter__(self):
        return iter(self._log)

    @property
    def row(self):
        """The Row now."""
        return row_of(list(self._rows[-1]))

    @property
    def kind(self):
        """The Kind now."""
        return Kind(list(self._kinds[-1]))

    def do(self, edit):
        """Do an edit."""
        if not _is_edit(edit):
            raise BadEdit()
        # A list of bows might be changed later on, a tuple is not.
        self._take(("row", tuple(edit[1])) if edit[0] == "row" else edit)
        self._undone = ()

    def back(self):
        """Undo the last edit that stands, and return it."""
        if len(self._log) == 0:
            raise Nothing()
        edit = self._log[-1]
        self._log = self._log[:-1]
        self._rows = self._rows[:-1]
        self._kinds = self._kinds[:-1]
        self._undone = self._undone + (edit,)
        return edit

    def again(self):
        """Do the edit again that was undone last, and return it."""
        if len(self._undone) == 0:
            raise Nothing()
        edit = self._undone[-1]
        self._take(edit)
        self._undone = self._undone[:-1]
        return edit

    def log(self):
        """Return the list of the edits that stand."""
        return list(self._log)

    def copied(self):
        """Return a Book that stands where this one does."""
        made = Book(self._rows[0], self._kinds[0])
        made._rows = self._rows
        made._kinds = self._kinds
        made._log = self._log
        made._undone = self._undone
        return made

    def _take(self, edit):
        # Whatever is raised is raised here, ahead of all changes.
        row = _row_after(self._rows[-1], edit)
        kind = _kind_after(self._kinds[-1], edit)
        self._rows = self._rows + (row,)
        self._kinds = self._kinds + (kind,)
        self._log = self._log + (edit,)


def _is_edit(thing):
    if not isinstance(thing, tuple) or len(thing) == 0:
        return False
    if not isinstance(thing[0], str) or thing[0] not in EDITS:
        return False
    forms = EDITS[thing[0]]
    if len(thing) != len(forms) + 1:
        return False
    return all([_is_of_form(forms[at], thing[at + 1]) for at in range(len(forms))])


def _is_of_form(form, thing):
    if form == "bow":
        return is_bow(thing)
    if form == "bows":
        return are_bows(thing)
    if form == "index":
        return is_integer(thing)
    return is_way(thing)


def _row_after(row, edit):
    word = edit[0]
    if word == "put":
        return row.put(edit[1])
    if word == "out":
        return row.without(edit[1])
    if word == "bow":
        index = edit[1]
        others = row.without(index).bows()
        return row_of(others[:index] + [edit[2]] + others[index:])
    if word == "row":
        return row_of(edit[1])
    return row.turned() if word == "turn" else row


def _kind_after(kind, edit):
    word = edit[0]
    if word == "let":
        return kind | Kind([edit[1]])
    if word == "bar":
        return kind - Kind([edit[1]])
    return kind.turned() if word == "turn" else kind

"""Texts of bows, rows, kinds, layers and papers, and pictures [101]."""


def show_bow(bow):
    """Return the text of a bow."""
    begin, end = bow
    return f"{begin}:{end}"


def show_bows(bows):
    """Return the text of a list of bows."""
    return _or_none(" ".join([show_bow(bow) for bow in bows]))


def show_row(row):
    """Return the text of a Row."""
    return show_bows(row.bows())


def show_kind(kind):
    """Return the text of a Kind."""
    return _or_none(",".join(kind.ways()))


def show_layer(layer):
    """Return the text of a list of numbers."""
    return _or_none(",".join([str(number) for number in layer]))


def show_layering(layers):
    """Return the text of a list of lists of numbers, none of which is empty."""
    return _or_none(";".join([show_layer(layer) for layer in layers]))


def show_paper(thing):
    """Return the text of a tuple of the form of a paper."""
    form, shown = thing
    if form == "ends":
        return f"ends {shown}"
    if form == "ring":
        return f"ring {show_bows(shown)}"
    order = _or_none(",".join(shown))
    return f"{form} {order}"


def show_picture(row):
    """Return the picture of a Row, a line for each bow."""
    places = row.places()
    return "".join(["".join([_sign(bow, place) for place in places]) + "\n" for bow in row])


def _or_none(text):
    # No member has an empty text, so this is a list without members.
    return text if text != "" else "-"


def _sign(bow, place):
    begin, end = bow
    if place == begin:
        return "("
    if place == end:
        return ")"
    return "-" if begin < place < end else "."

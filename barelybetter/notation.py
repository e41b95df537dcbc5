"""Notation: the texts of answers, walks, pairs, Books, Tables, Scales and ends."""


def show_answer(answer):
    """Return the text of an answer."""
    x, y, truth = answer
    return f"{x} better {y}" if truth else f"{x} not {y}"


def show_walk(walk):
    """Return the text of a walk."""
    return ", ".join([show_answer(answer) for answer in walk]) if walk else "-"


def show_names(names):
    """Return the text of some names, perhaps none."""
    return " ".join(names) if names else "-"


def show_book(book):
    """Return the text of a Book."""
    return _lines([_things_line(book.things())] + [show_answer(answer) for answer in book.answers()])


def show_table(table):
    """Return the text of a Table."""
    return _lines([_things_line(table.things())] + [f"{x} better {y}" for x, y in table.betters()])


def show_scale(scale):
    """Return the text of a Scale."""
    worths = scale.worths()
    return _lines([f"step {scale.step}"] + [f"{thing} {worths[thing]}" for thing in worths])


def show_end(end):
    """Return the text of an end of what a difference can be."""
    if end is None:
        return "none"
    steps, reached = end
    return f"{steps} reached" if reached else f"{steps}"


def _things_line(things):
    """Return the line of some things, without its line feed."""
    return " ".join(["things"] + things)


def _lines(rows):
    """Return the text of some lines, each with a line feed behind it."""
    return "".join([row + "\n" for row in rows])

"""Texts read as wisps, rows and pages."""

from evenstrand.entries import MOST_ENTRIES, is_entry
from evenstrand.errors import NoText
from evenstrand.rows import is_row
from evenstrand.wisps import is_wisp

FIGURES = "0123456789"
MOST_FIGURES = 40


def number_of(text):
    """The whole number that a text writes, or None."""
    # How many figures there are is asked first: Python won't read some thousand of them.
    if not 1 <= len(text) <= MOST_FIGURES or not all([sign in FIGURES for sign in text]):
        return None
    return int(text) if text[0] != "0" or text == "0" else None


def step_of(text):
    """The step that a text writes; what is no number there is None."""
    thickness, sign, long = text.partition("x")
    return (number_of(thickness), number_of(long))


def wisp_of(text):
    """The wisp that a text writes, or None."""
    sort, sign, steps = text.partition(":")
    wisp = (number_of(sort), tuple([step_of(step) for step in steps.split(",")]))
    return wisp if is_wisp(wisp) else None


def row_of(text):
    """The row that a text writes, or None."""
    row = () if text == "-" else tuple([wisp_of(word) for word in text.split(" ")])
    return row if is_row(row) else None


def title_of(text):
    """The (number, version) that the first row of a page writes, or None."""
    words = text.split(" ")
    if words[0] != "page" or len(words) != 3:
        return None
    title = (number_of(words[1]), number_of(words[2]))
    return None if None in title else title


def entry_of(text):
    """The entry that a row of a page writes, or None."""
    words = text.split(" ")
    entry = None
    if words[0] == "lay" and len(words) == 4:
        entry = ("lay", words[1], wisp_of(words[2]), number_of(words[3]))
    elif words[0] == "let" and len(words) == 3:
        entry = ("let", words[1], number_of(words[2]))
    elif words[0] == "snap" and len(words) == 3:
        entry = ("snap", number_of(words[1]), number_of(words[2]))
    return entry if is_entry(entry) else None


def read_wisp(text):
    """The wisp that a text, of anything, writes; else NoText."""
    wisp = wisp_of(text) if isinstance(text, str) else None
    if wisp is None:
        raise NoText(0)
    return wisp


def read_row(text):
    """The row that a text, of anything, writes; else NoText."""
    row = row_of(text) if isinstance(text, str) else None
    if row is None:
        raise NoText(0)
    return row


def read_page(text):
    """The page that a text, of anything, writes; else NoText, with the number of the first row at fault."""
    rows = text.split("; ") if isinstance(text, str) else [""]
    title = title_of(rows[0])
    if title is None:
        raise NoText(0)
    entries = []
    for number, row in enumerate(rows[1:], start=1):
        entry = entry_of(row)
        if entry is None or number > MOST_ENTRIES:
            raise NoText(number)
        entries.append(entry)
    return title + (tuple(entries),)

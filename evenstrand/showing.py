"""Wisps, rows and pages shown as texts."""


def show_wisp(wisp):
    """The text of a wisp, as in 0:5x3,2x4."""
    sort, steps = wisp
    return f"{sort}:" + ",".join([f"{thickness}x{long}" for thickness, long in steps])


def show_row(row):
    """The text of a row: its wisps with one blank between, - of none."""
    return " ".join([show_wisp(wisp) for wisp in row]) if row else "-"


def show_entry(entry):
    """The text of an entry: its words with one blank between."""
    if entry[0] == "lay":
        word, name, wisp, moment = entry
        return f"lay {name} {show_wisp(wisp)} {moment}"
    return " ".join([str(part) for part in entry])


def show_page(page):
    """The text of a page: a row of its number and version, then one for each entry."""
    number, version, entries = page
    return "; ".join([f"page {number} {version}"] + [show_entry(entry) for entry in entries])

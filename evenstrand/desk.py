"""A desk that keeps a book, a row and a basket, and answers line by line."""

from evenstrand.baskets import is_basket, is_frame
from evenstrand.book import Book
from evenstrand.broken import cost
from evenstrand.drawing import drawn, drawn_to, lasting
from evenstrand.entries import breaks_by
from evenstrand.errors import NoLine, NoText
from evenstrand.fewest import fewest
from evenstrand.longest import longest
from evenstrand.mixing import sort_of
from evenstrand.reading import number_of, read_page, read_row, wisp_of

MOST_PICKS = 60
MOST_LENGTH = 20
MOST_STATES = 300


def check(fits):
    """Refuses a line that doesn't fit."""
    if not fits:
        raise NoLine("this line is none that the desk knows")


def listed(things, sign):
    """Things with a sign between them, or - of none."""
    return sign.join([str(thing) for thing in things]) if things else "-"


def understood(reader, text):
    """What a reader reads of a text: what it refuses is no line."""
    try:
        return reader(text)
    except NoText:
        raise NoLine("a part of this line can't be read") from None


def kind_of(text):
    """The kind that a word writes, or None."""
    wisp, sign, many = text.partition("*")
    number = number_of(many)
    # No number is None as well: only where - stands it is as many as wanted.
    return None if number is None and many != "-" else (wisp_of(wisp), number)


def answer_told(desk, numbers):
    """The names, both thicknesses, and whether the place is cut or left."""
    names, sorts, cut = desk.book.told(numbers[0])
    those = listed(names, ",")
    word = "cut" if cut else "left"
    return f"{those} {sorts[0]} {sorts[1]} {word}"


def answer_stretches(desk, numbers):
    """How many stretches the book has."""
    return str(len(desk.book.stretches()))


def answer_end(desk, numbers):
    """The end of the book."""
    return str(desk.book.end())


def answer_length(desk, numbers):
    """How many places are left at a moment."""
    return str(desk.book.length(numbers[0]))


def answer_draw(desk, numbers):
    """The places of the row drawn late, and how long it lasts."""
    low = numbers[0]
    check(low >= 1)
    places = listed(drawn(desk.row, low), ",")
    return f"{places} {lasting(desk.row, low)}"


def answer_to(desk, numbers):
    """How many are laid for a length, or where the row is too thin for it, and how thick."""
    low, length = numbers
    check(low >= 1)
    told = drawn_to(desk.row, low, length)
    return f"drawn {len(told[1])}" if told[0] == "drawn" else f"thin {told[1]} {sum(told[2])}"


def answer_cost(desk, numbers):
    """What the book's breaks cost the row."""
    low, length = numbers
    check(low >= 1)
    lost, more = cost(desk.row, low, breaks_by(desk.book.entries()), length)
    return f"{lost} never" if more is None else f"{lost} {more}"


def answer_mix(desk, numbers):
    """The sorts of the first picks of a mixture."""
    m, n, many = numbers
    check(m + n > 0 and many <= MOST_PICKS)
    return listed([sort_of((m, n), k) for k in range(many)], "")


def answer_fewest(desk, numbers):
    """The fewest of the basket for a length."""
    frame, length = tuple(numbers[:3]), numbers[3]
    check(desk.basket is not None and is_frame(frame) and length <= MOST_LENGTH)
    told = fewest(desk.basket, frame, length, MOST_STATES)
    return "open" if told[0] == "open" else f"{told[0]} {told[1]}"


def answer_longest(desk, numbers):
    """The most places of the basket."""
    frame = tuple(numbers)
    check(desk.basket is not None and is_frame(frame))
    told = longest(desk.basket, frame, MOST_STATES)
    return f"longest {told[1]}" if told[0] == "longest" else told[0]


# By each word that only numbers stand behind: how many of them, and what answers.
HOW_MANY = {
    "told": 1, "stretches": 0, "end": 0, "length": 1, "draw": 1,
    "to": 2, "cost": 2, "mix": 3, "fewest": 4, "longest": 3}
ANSWERS = {
    "told": answer_told, "stretches": answer_stretches, "end": answer_end, "length": answer_length,
    "draw": answer_draw, "to": answer_to, "cost": answer_cost, "mix": answer_mix,
    "fewest": answer_fewest, "longest": answer_longest}


class Desk:
    """A book, a row and a basket, of which lines tell and ask."""

    def __init__(self):
        self.book = Book()
        self.row = ()
        self.basket = None

    def say(self, line):
        """The answer to a line, of anything; NoLine where it is none, then Twice."""
        check(isinstance(line, str))
        word, blank, rest = line.partition(" ")
        if word == "page":
            runs = self.book.put(understood(read_page, line))
            return listed([f"{start}-{end}" for start, end in runs], " ")
        if word == "row":
            self.row = understood(read_row, rest)
            return "ok"
        if word == "basket":
            basket = tuple([kind_of(kind) for kind in rest.split(" ")])
            check(is_basket(basket))
            self.basket = basket
            return "ok"
        check(word in ANSWERS)
        numbers = [number_of(text) for text in line.split(" ")[1:]]
        check(len(numbers) == HOW_MANY[word] and None not in numbers)
        answer = ANSWERS[word]
        return answer(self, numbers)

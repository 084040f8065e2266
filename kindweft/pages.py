"""Pages: books as texts."""

from kindweft.book import MOST_SAYINGS, MOST_THINGS, book_at
from kindweft.errors import BadPage, BadTable, Unlawful
from kindweft.names import is_name
from kindweft.tables import table_rows
from kindweft.texts import are_rising, read_table

FIGURES = "0123456789"
MOST_FIGURES = 9


def page(book):
    """The text of a book."""
    rows = ["book"] + table_rows(book.table())
    rows += [f"thing {name}" for name in book.things()]
    rows += [" ".join(["say", str(number), one, other] + kinds) for number, one, other, kinds in book.sayings()]
    rows.append(f"next {book.coming()}")
    return "".join([row + "\n" for row in rows])


def read_page(text):
    """The book of a text; BadPage with the first row that is not so written or cannot be."""
    # A row that lacks its line feed is none yet: it has the number of the row that lacks.
    *rows, rest = text.split("\n")
    if words_of(rows, 0) != ["book"]:
        raise BadPage(0)
    table = read_ground(rows)
    at = 1 + len(table_rows(table))
    names = read_things(rows, at)
    at += len(names)
    said = read_sayings(rows, at, table, names)
    at += len(said)
    number = read_next(rows, at, said)
    if len(rows) > at + 1 or rest != "":
        raise BadPage(at + 1)
    return book_at(table, (tuple(names), tuple(said), number))


def words_of(rows, at):
    """The words of a row; one blank too many leaves an empty word, which nothing can be."""
    if at >= len(rows):
        raise BadPage(at)
    return rows[at].split(" ")


def read_ground(rows):
    """The table, whose rows stand behind the first one."""
    size = len(words_of(rows, 1)) - 1
    text = "\n".join(rows[1:3 + size + size * size])
    try:
        return read_table(text)
    except BadTable as e:
        raise BadPage(e.row + 1) from None
    except Unlawful:
        raise BadPage(1) from None


def read_things(rows, start):
    """The names of the things."""
    names = []
    words = words_of(rows, start)
    while words[0] == "thing":
        at = start + len(names)
        if len(words) != 2 or not is_name(words[1]) or words[1] in names or len(names) >= MOST_THINGS:
            raise BadPage(at)
        names.append(words[1])
        words = words_of(rows, at + 1)
    return names


def read_sayings(rows, start, table, names):
    """The rows of the sayings, as a book has them."""
    said = []
    words = words_of(rows, start)
    while words[0] == "say":
        at = start + len(said)
        if not is_saying(words, table, names) or len(said) >= MOST_SAYINGS:
            raise BadPage(at)
        number = int(words[1])
        if number <= last_number(said):
            raise BadPage(at)
        said.append((number, words[2], words[3], tuple(words[4:])))
        words = words_of(rows, at + 1)
    return said


def is_saying(words, table, names):
    """Whether the words of a row tell a number, two things, and kinds in order."""
    if len(words) < 5 or not is_number(words[1]):
        return False
    return words[2] in names and words[3] in names and are_rising(words[4:], table.places)


def is_number(word):
    """Whether a word is a plain number, as they stand on pages."""
    if not 1 <= len(word) <= MOST_FIGURES or not all([sign in FIGURES for sign in word]):
        return False
    return word == "0" or word[0] != "0"


def last_number(said):
    """The number of the last saying; numbers are from 1 on, so 0 is below all."""
    return said[-1][0] if said else 0


def read_next(rows, at, said):
    """The number of the next saying."""
    words = words_of(rows, at)
    if len(words) != 2 or words[0] != "next" or not is_number(words[1]):
        raise BadPage(at)
    number = int(words[1])
    if number <= last_number(said):
        raise BadPage(at)
    return number

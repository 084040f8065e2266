"""The desk: a book that is worked by lines of words."""

from kindweft.book import Book
from kindweft.errors import Broken, Missing, NothingBack, WeftError
from kindweft.pages import is_number, page
from kindweft.search import count, follows, least, lot, standing


def do_thing(book, words):
    book.thing(words[0])
    return "done"


def do_drop(book, words):
    book.drop(words[0])
    return "done"


def do_say(book, words):
    return str(book.say(words[0], words[1], words[2:]))


def do_strike(book, words):
    book.strike(int(words[0]))
    return "done"


def do_undo(book, words):
    book.undo()
    return "done"


def do_redo(book, words):
    book.redo()
    return "done"


def tell_things(book, words):
    return listing(book.things())


def tell_sayings(book, words):
    return listing([row[0] for row in book.sayings()])


def tell_closed(book, words):
    return listing(book.closed(words[0], words[1]))


def tell_stands(book, words):
    word, found = standing(book)
    if word == "barred":
        return "no"
    return "yes " + listing([row[2] for row in found])


def tell_follows(book, words):
    return "yes" if follows(book, words[0], words[1], words[2:])[0] == "follows" else "no"


def tell_kinds(book, words):
    return listing([row[0] for row in least(book, words[0], words[1])])


def tell_count(book, words):
    return str(count(book))


def tell_lot(book, words):
    return listing(lot(book) or [])


def tell_page(book, words):
    return page(book)


def listing(things):
    """Things with a blank between."""
    return " ".join([str(thing) for thing in things]) if things else "none"


ANSWERS = {
    "thing": do_thing, "drop": do_drop, "say": do_say, "strike": do_strike, "undo": do_undo, "redo": do_redo,
    "things": tell_things, "sayings": tell_sayings, "closed": tell_closed, "stands": tell_stands,
    "follows": tell_follows, "kinds": tell_kinds, "count": tell_count, "lot": tell_lot, "page": tell_page,
}
# How many words stand behind the first one; at least so many where the last ones are kinds.
WORDS_BEHIND = {
    "thing": 1, "drop": 1, "say": 3, "strike": 1, "undo": 0, "redo": 0, "things": 0, "sayings": 0, "closed": 2,
    "stands": 0, "follows": 3, "kinds": 2, "count": 0, "lot": 0, "page": 0,
}
ENDS_IN_KINDS = ("say", "follows")


def is_form(words):
    """Whether these words, parted at each single blank, are a line that a desk can answer."""
    if "" in words or words[0] not in WORDS_BEHIND:
        return False
    behind = len(words) - 1
    if words[0] in ENDS_IN_KINDS:
        return behind >= WORDS_BEHIND[words[0]]
    if behind != WORDS_BEHIND[words[0]]:
        return False
    return words[0] != "strike" or is_number(words[1])


class Desk:
    """A desk with a book of its own over a table."""

    def __init__(self, table):
        self.kept = Book(table)

    def say(self, line):
        """The answer to a line; what is refused is answered by the refusal's word."""
        words = line.split(" ")
        if not is_form(words):
            return "no line"
        answer = ANSWERS[words[0]]
        try:
            return answer(self.kept, words[1:])
        except (WeftError, Missing, NothingBack, Broken) as e:
            return f"no {e.word}"

    def book(self):
        """A twin of the book."""
        return self.kept.twin()

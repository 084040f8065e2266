"""Books: things and sayings over a table, the deeds that change them, and what follows by steps."""

from kindweft.errors import BadName, BadSaying, Full, NoSaying, NothingBack, NoThing, Taken
from kindweft.names import is_name
from kindweft.webs import needed_steps, web_of

MOST_THINGS = 6
MOST_SAYINGS = 40


class Book:
    """A book over a table.

    How the book stands is one tuple that is never changed: the names of the things, the rows of the sayings
    (number, one, other, tuple of kinds) and the next number. So a deed taken back is but the tuple ahead of it.
    """

    def __init__(self, table):
        self.ground = table
        self.now = ((), (), 1)
        self.past = []
        self.undone = []

    def thing(self, name):
        """Brings a thing."""
        names, rows, number = self.now
        if not is_name(name):
            raise BadName()
        if name in names:
            raise Taken()
        if len(names) >= MOST_THINGS:
            raise Full()
        self.turn_to((names + (name,), rows, number))

    def drop(self, name):
        """Lets a thing go, and all its sayings."""
        gone = self.place_of(name)
        names, rows, number = self.now
        kept = tuple([row for row in rows if name not in (row[1], row[2])])
        self.turn_to((names[:gone] + names[gone + 1:], kept, number))

    def say(self, one, other, kinds):
        """Says that two things stand in one of these kinds; the saying's number."""
        return self.say_all([(one, other, kinds)])[0]

    def strike(self, number):
        """Takes a saying away."""
        names, rows, coming = self.now
        kept = tuple([row for row in rows if row[0] != number])
        if len(kept) == len(rows):
            raise NoSaying(number)
        self.turn_to((names, kept, coming))

    def say_all(self, sayings):
        """Says all of them as one deed, or none; the list of their numbers."""
        names, rows, number = self.now
        told = []
        for one, other, kinds in sayings:
            held = self.checked_kinds(one, other, kinds)
            if len(rows) + len(told) >= MOST_SAYINGS:
                raise Full()
            told.append((number + len(told), one, other, held))
        if told:
            self.turn_to((names, rows + tuple(told), number + len(told)))
        return [row[0] for row in told]

    def undo(self):
        """Takes the last deed back."""
        if not self.past:
            raise NothingBack("nothing to take back")
        self.undone.append(self.now)
        self.now = self.past.pop()

    def redo(self):
        """Does again what was taken back last."""
        if not self.undone:
            raise NothingBack("nothing to do again")
        self.past.append(self.now)
        self.now = self.undone.pop()

    def table(self):
        return self.ground

    def things(self):
        """The names of the things, in the order in which they came."""
        return list(self.now[0])

    def sayings(self):
        """The standing sayings (number, one, other, kinds), by their numbers."""
        return [(number, one, other, list(kinds)) for number, one, other, kinds in self.now[1]]

    def coming(self):
        """The number of the next saying."""
        return self.now[2]

    def closed(self, one, other):
        """The closed web's set of a pair."""
        first, second = self.place_of(one), self.place_of(other)
        web = web_of(self)
        web.close()
        return self.ground.listed(web.sets[first][second])

    def why(self, one, other):
        """Steps that lead from the sayings alone to the pair's closed set, of a torn book to an empty set."""
        first, second = self.place_of(one), self.place_of(other)
        web = web_of(self)
        log = web.close()
        if log and web.has_empty():
            first, second = log[-1][0], log[-1][2]
        names = self.now[0]
        return [(names[x], names[y], names[z]) for x, y, z in needed_steps(log, first, second)]

    def torn(self):
        """Whether the closed web is empty."""
        web = web_of(self)
        web.close()
        return web.has_empty()

    def twin(self):
        """A book that stands alike, with the same to undo and redo."""
        other = book_at(self.ground, self.now)
        other.past = list(self.past)
        other.undone = list(self.undone)
        return other

    def turn_to(self, state):
        """Ends a deed: the book stands so, and what was taken back is let go of."""
        self.past.append(self.now)
        self.now = state
        self.undone = []

    def place_of(self, name):
        """The place of a thing in the order."""
        names = self.now[0]
        if name not in names:
            raise NoThing(name)
        return names.index(name)

    def checked_kinds(self, one, other, kinds):
        """The kinds of a saying of these two, in the table's order, each once."""
        self.place_of(one)
        self.place_of(other)
        held = self.ground.ordered(kinds)
        if not held:
            raise BadSaying()
        return tuple(held)

    def __len__(self):
        return len(self.now[1])


def book_at(table, state):
    """A book over the table that stands so, with nothing to undo or redo."""
    book = Book(table)
    book.now = state
    return book

"""Webs: a set of kinds for each two things of a book, narrowed by sayings and by steps.

Things stand in a web by their places in the book's order, sets of kinds as numbers (see kindweft.sets).
"""

from kindweft.sets import places_in, set_of, union_at
from kindweft.tables import places_by_name


class Loom:
    """Steps and backs of a table's sets; each is made but once, as the same sets come up again and again."""

    def __init__(self, table):
        self.grid = table.grid
        self.turns = table.turns
        self.known_steps = {}
        self.known_backs = {}

    def step_of(self, first, second):
        """The step of two sets."""
        key = (first, second)
        if key not in self.known_steps:
            self.known_steps[key] = union_at([union_at(row, second) for row in self.grid], first)
        return self.known_steps[key]

    def back_of(self, held):
        """The back of a set."""
        if held not in self.known_backs:
            self.known_backs[held] = set_of([self.turns[place] for place in places_in(held)])
        return self.known_backs[held]


class Web:
    """The sets of each two things, in both ways about; places has the place of each thing's name."""

    def __init__(self, loom, places, sets):
        self.loom = loom
        self.places = places
        self.sets = sets

    def leave(self, one, other, held):
        """Leaves in a pair's set what held has too, and the backs turned about; whether this changed it."""
        left = self.sets[one][other] & held
        if left == self.sets[one][other]:
            return False
        self.sets[one][other] = left
        self.sets[other][one] = self.loom.back_of(left)
        return True

    def take(self, one, through, other):
        """Takes a step; whether it changed the set of one and other."""
        return self.leave(one, other, self.loom.step_of(self.sets[one][through], self.sets[through][other]))

    def has_empty(self):
        """Whether some set is empty, be it a thing's with itself."""
        return any([0 in row for row in self.sets])

    def parted(self, one, other, held):
        """A web of its own, as this one but for a pair's set, of which it has only what held has too."""
        branch = Web(self.loom, self.places, [list(row) for row in self.sets])
        branch.leave(one, other, held)
        return branch

    def close(self):
        """Closes the web; the steps that changed a set, in order. The last one empties a set of a torn web."""
        return self.close_behind(pairs_in_order(len(self.sets)))

    def close_behind(self, pairs):
        """As close, of a web that is closed but for what the sets of these pairs lead to."""
        log = [] if self.has_empty() else self.take_till_still(pairs)
        if self.has_empty():
            self.sets = [[0 for held in row] for row in self.sets]
        return log

    def take_till_still(self, pairs):
        """Takes what steps the sets of these pairs lead to, till none changes a set or one set is empty; which did."""
        log = []
        waiting = list(pairs)
        while waiting:
            one, other = waiting.pop(0)
            for step in steps_over(one, other, len(self.sets)):
                first, through, last = step
                if self.take(first, through, last):
                    log.append(step)
                    if self.sets[first][last] == 0:
                        return log
                    waiting.append((first, last))
        return log


def pairs_in_order(size):
    """Each two of so many things, one ahead of other, in the order in which a standing tells them."""
    return [(one, other) for one in range(size) for other in range(one + 1, size)]


def steps_over(one, other, size):
    """The steps that the set of a pair can change something by; those turned about change the same."""
    thirds = [third for third in range(size) if third not in (one, other)]
    return [(one, other, third) for third in thirds] + [(third, one, other) for third in thirds]


def web_of(book):
    """The web that a book's sayings alone leave."""
    return web_by(book, book.sayings())


def web_by(book, sayings):
    """The web of a book's things that these sayings alone leave."""
    table = book.table()
    places = places_by_name(book.things())
    own = table.gathered([table.same])
    every = table.gathered(table.kinds())
    sets = [[own if one == other else every for other in range(len(places))] for one in range(len(places))]
    web = Web(Loom(table), places, sets)
    for number, first, second, kinds in sayings:
        web.leave(places[first], places[second], table.gathered(kinds))
    return web


def needed_steps(log, one, other):
    """Of steps that changed a web in this order those on which the set of a pair hangs."""
    wanted = {(one, other): True, (other, one): True}
    kept = []
    for first, through, last in reversed(log):
        if (first, last) in wanted:
            kept.append((first, through, last))
            for x, y in ((first, through), (through, last)):
                wanted[x, y] = True
                wanted[y, x] = True
    return kept[::-1]

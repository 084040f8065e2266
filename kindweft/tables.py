"""Tables of kinds: their form, whether they are lawful, and what they tell."""

from kindweft.errors import BadTable, NoKind, Unlawful
from kindweft.names import are_kinds
from kindweft.rules import first_fault
from kindweft.sets import set_of, union_at


def fault(names, same, backs, steps):
    """None for a lawful table; else the word of the first rule that fails and the names at which it does."""
    home, turns, grid = placed(names, same, backs, steps)
    return named_fault(names, first_fault(home, turns, grid))


def named_fault(names, broken):
    if broken is None:
        return None
    word, *places = broken
    return tuple([word] + [names[place] for place in places])


def placed(names, same, backs, steps):
    """The place of same, the places of the backs and the steps as sets; BadTable for any other form."""
    if not are_kinds(names):
        raise BadTable(-1)
    places = places_by_name(names)
    if not is_kind(same, places) or not is_list(backs, len(names)) or not are_all_kinds(backs, places):
        raise BadTable(-1)
    if not is_square(steps, places):
        raise BadTable(-1)
    turns = tuple([places[name] for name in backs])
    grid = tuple([tuple([set_of([places[name] for name in step]) for step in row]) for row in steps])
    return places[same], turns, grid


def places_by_name(names):
    return {name: place for place, name in enumerate(names)}


def is_kind(word, places):
    # What is no text may be nothing that a dict can be asked for.
    return isinstance(word, str) and word in places


def is_list(things, size):
    return isinstance(things, list) and len(things) == size


def are_all_kinds(words, places):
    return isinstance(words, list) and all([is_kind(word, places) for word in words])


def is_square(steps, places):
    """Whether there is a row for each kind, and in it a list of kinds for each kind."""
    size = len(places)
    if not is_list(steps, size) or not all([is_list(row, size) for row in steps]):
        return False
    return all([are_all_kinds(step, places) for row in steps for step in row])


class Table:
    """A lawful table of kinds.

    names are the kinds in order and places the place of each; turns are the places of the backs,
    grid the steps as sets (see kindweft.sets).
    """

    def __init__(self, names, same, backs, steps):
        home, turns, grid = placed(names, same, backs, steps)
        broken = named_fault(names, first_fault(home, turns, grid))
        if broken is not None:
            raise Unlawful(broken[0], broken[1:])
        self.names = tuple(names)
        self.places = places_by_name(names)
        self.same = same
        self.turns = turns
        self.grid = grid

    def kinds(self):
        """The names of all kinds, in order."""
        return list(self.names)

    def back(self, kind):
        """The kind in which the second thing stands to the first."""
        return self.names[self.turns[self.place(kind)]]

    def step(self, one, other):
        """The kinds in which x may stand to z where x stands to y so and y to z so."""
        first = self.place(one)
        second = self.place(other)
        return self.listed(self.grid[first][second])

    def steps(self, ones, others):
        """All steps of a kind of the first set and one of the second."""
        first = self.gathered(ones)
        second = self.gathered(others)
        return self.listed(union_at([union_at(row, second) for row in self.grid], first))

    def backs(self, ones):
        """The backs of a set."""
        return self.listed(set_of([self.turns[self.place(kind)] for kind in ones]))

    def ordered(self, kinds):
        """The set in the table's order, each kind once."""
        return self.listed(self.gathered(kinds))

    def place(self, kind):
        """The place of a kind in the order."""
        if not is_kind(kind, self.places):
            raise NoKind(kind)
        return self.places[kind]

    def gathered(self, kinds):
        """A list of kinds as a set."""
        return set_of([self.place(kind) for kind in kinds])

    def listed(self, held):
        """A set as a list of kinds."""
        return [name for place, name in enumerate(self.names) if held >> place & 1]

    def __len__(self):
        return len(self.names)

    def __eq__(self, other):
        return (
            isinstance(other, Table)
            and self.names == other.names
            and self.same == other.same
            and self.turns == other.turns
            and self.grid == other.grid
        )

    def __repr__(self):
        return f"Table({len(self.names)} kinds)"

    def __str__(self):
        return "\n".join(table_rows(self))


def table_rows(table):
    """The rows of the table's text."""
    names = table.kinds()
    heads = [" ".join(["kinds"] + names), f"same {table.same}"]
    backs = [f"back {name} {table.back(name)}" for name in names]
    steps = [" ".join(["step", one, other, "="] + table.step(one, other)) for one in names for other in names]
    return heads + backs + steps

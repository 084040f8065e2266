"""Parts of tables for the tests, as lists that each call makes anew, and books over tables."""

from kindweft.book import Book
from kindweft.built import built
from kindweft.errors import NothingBack

LETTERS = "abcdefghijklmnopqrstuvwxyz"


def ring(size):
    """The table of a ring of so many kinds: a step is the sum of two places. It is lawful for any size."""
    names = [f"kind{LETTERS[place]}" for place in range(size)]
    backs = [names[-place % size] for place in range(size)]
    steps = [[[names[(one + other) % size]] for other in range(size)] for one in range(size)]
    return [names, names[0], backs, steps]


def moments():
    """The parts of the table of moments, written out."""
    every = ["ahead", "same", "behind"]
    return [
        ["ahead", "same", "behind"],
        "same",
        ["behind", "same", "ahead"],
        [
            [["ahead"], ["ahead"], list(every)],
            [["ahead"], ["same"], ["behind"]],
            [list(every), ["behind"], ["behind"]],
        ],
    ]


def loose():
    """Two own backs beside same whose steps are empty but for same's: it fails at row alone."""
    return [
        ["a", "same", "b"],
        "same",
        ["a", "same", "b"],
        [
            [["same"], ["a"], []],
            [["a"], ["same"], ["b"]],
            [[], ["b"], ["same"]],
        ],
    ]


def pentagon():
    """Beside same two colours of which no three things have one alone: no six things can all be unlike."""
    return [
        ["red", "same", "blue"],
        "same",
        ["red", "same", "blue"],
        [
            [["same", "blue"], ["red"], ["red", "blue"]],
            [["red"], ["same"], ["blue"]],
            [["red", "blue"], ["blue"], ["red", "same"]],
        ],
    ]


def triangle():
    """The turns of a triangle and its flips: a lawful table in which the order of a step matters."""
    turns = {
        "same": (0, 1, 2), "left": (1, 2, 0), "right": (2, 0, 1),
        "flipa": (0, 2, 1), "flipb": (2, 1, 0), "flipc": (1, 0, 2),
    }
    names = list(turns)
    called = {places: name for name, places in turns.items()}
    step = {
        (one, other): called[tuple(turns[one][place] for place in turns[other])] for one in names for other in names
    }
    backs = [next(other for other in names if step[one, other] == "same") for one in names]
    return [names, "same", backs, [[[step[one, other]] for other in names] for one in names]]


def book_of(table, things, sayings=()):
    """A book with these things (names, or a text of one-letter names) and sayings (one, other, text of kinds)."""
    book = Book(table)
    for name in things:
        book.thing(name)
    for one, other, kinds in sayings:
        book.say(one, other, kinds.split())
    return book


def shown(book):
    """All that a book stands for but what waits to be undone or done again."""
    return (book.things(), book.sayings(), book.coming(), len(book), book.table())


def any_deed(book, chance):
    """Some deed that is not refused."""
    things, numbers = book.things(), [row[0] for row in book.sayings()]
    deeds = []
    if len(things) < 6:
        deeds.append(lambda: book.thing(chance.choice([name for name in "abcdefgh" if name not in things])))
    if things:
        deeds.append(lambda: book.drop(chance.choice(things)))
    if things and len(numbers) < 38:
        kinds = chance.sample(book.table().kinds(), 2)
        deeds += [lambda: book.say(chance.choice(things), chance.choice(things), kinds)] * 3
        deeds.append(lambda: book.say_all([(chance.choice(things), chance.choice(things), kinds)] * 2))
    if numbers:
        deeds.append(lambda: book.strike(chance.choice(numbers)))
    chance.choice(deeds)()


def lenient(size):
    """Kinds that are their own backs, of which each two unlike same let each other kind by."""
    names = [f"kind{LETTERS[place]}" for place in range(size)]
    same, others = names[0], names[1:]

    def step(one, other):
        if same in (one, other):
            return [other if one == same else one]
        return list(names) if one == other else list(others)

    return [names, same, list(names), [[step(one, other) for other in names] for one in names]]


def loosely_said(table, chance, things, sayings, most):
    """A book with so many things and sayings, each of one kind up to so many, now and then of a thing and itself."""
    book = book_of(table, "fbdaec"[:things])
    kinds = table.kinds()
    for at in range(sayings if things else 0):
        one, other = chance.choice(book.things()), chance.choice(book.things())
        told = chance.sample(kinds, chance.randint(1, min(most, len(kinds))))
        if one == other and chance.random() < 0.9:
            told = [table.same] + told
        book.say(one, other, told)
    return book


def waiting_book():
    """A book over moments with gaps in its numbers, with deeds to undo and deeds to do again."""
    book = book_of(built("moments"), "abcd", [
        ("a", "b", "ahead"), ("b", "c", "ahead same"), ("c", "d", "ahead"), ("d", "a", "behind same")])
    book.strike(2)
    book.say("b", "d", ["ahead", "behind"])
    book.thing("e")
    book.drop("c")
    book.undo()
    book.undo()
    return book


def unwound(book):
    """All that a book stands for, with all that it can undo and do again."""
    back, on = book.twin(), book.twin()
    told = [shown(book)]
    for twin, turn in ((back, back.undo), (on, on.redo)):
        try:
            while True:
                turn()
                told.append(shown(twin))
        except NothingBack:
            told.append("end")
    return told

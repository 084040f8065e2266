"""[9]: books, their deeds and what these refuse, undo and redo, twins; [2] for what is handed in and told."""

import random
import unittest

from kindweft.book import Book
from kindweft.built import built
from kindweft.errors import BadName, BadSaying, Full, NoKind, NoSaying, NothingBack, NoThing, Taken
from kindweft.tables import Table
from tests.making import any_deed, book_of, moments, ring, shown

BAD_NAMES = ("", "A", "aB", "a1", "a b", "a\n", "-", "abcdefghi", " a", 1, None, True, ["a"], ("a",), b"a")


def filled(many):
    """A book of two things with so many sayings."""
    return book_of(built("moments"), "xy", [("x", "y", "ahead same")] * many)


class Checks(unittest.TestCase):
    def check_refused(self, book, kind, call, *told, **attributes):
        """The call is refused so, and the book stays, with what can be undone and done again."""
        ahead = (shown(book), history(book))
        with self.assertRaises(kind) as caught:
            call(*told)
        for name, held in attributes.items():
            self.assertEqual(getattr(caught.exception, name), held)
        self.assertEqual((shown(book), history(book)), ahead)


def history(book):
    """How the book stands behind each undo and each redo that it has."""
    told = []
    for move in (Book.undo, Book.redo):
        twin = book.twin()
        try:
            while True:
                move(twin)
                told.append((move.__name__, shown(twin)))
        except NothingBack:
            pass
    return told


class NewBook(Checks):
    def test_is_empty(self):
        table = built("parts")
        book = Book(table)
        self.assertEqual((book.things(), book.sayings(), book.coming(), len(book)), ([], [], 1, 0))
        self.assertEqual(book.table(), table)
        self.assertIs(book.torn(), False)
        self.assertEqual(Book(table=table).table(), table)
        self.check_refused(book, NothingBack, book.undo)
        self.check_refused(book, NothingBack, book.redo)


class Things(Checks):
    def test_in_the_order_in_which_they_came(self):
        book = Book(built("moments"))
        for name in ("zebra", "a", "abcdefgh", "m"):
            self.assertIsNone(book.thing(name))
        self.assertEqual(book.things(), ["zebra", "a", "abcdefgh", "m"])
        book.thing(name="b")
        self.assertEqual(book.things(), ["zebra", "a", "abcdefgh", "m", "b"])

    def test_names_of_kinds_are_names_of_things_too(self):
        book = book_of(built("moments"), ["same", "ahead"], [("same", "ahead", "ahead")])
        self.assertEqual(book.closed("ahead", "same"), ["behind"])

    def test_bad_name(self):
        book = book_of(built("moments"), "a")
        for name in BAD_NAMES:
            self.check_refused(book, BadName, book.thing, name)

    def test_taken(self):
        book = book_of(built("moments"), ["a", "b"])
        self.check_refused(book, Taken, book.thing, "a")
        self.check_refused(book, Taken, book.thing, "b")

    def test_full(self):
        book = book_of(built("moments"), "abcde")
        book.thing("f")
        self.assertEqual(len(book.things()), 6)
        self.check_refused(book, Full, book.thing, "g")
        book.drop("c")
        book.thing("g")
        self.assertEqual(book.things(), list("abdefg"))

    def test_the_first_refusal_goes(self):
        book = book_of(built("moments"), "abcdef")
        for name in BAD_NAMES:
            self.check_refused(book, BadName, book.thing, name)
        self.check_refused(book, Taken, book.thing, "f")
        self.check_refused(book, Full, book.thing, "g")


class Drops(Checks):
    def test_the_thing_and_all_its_sayings_go(self):
        told = [("a", "b", "ahead"), ("b", "c", "same"), ("c", "a", "behind"), ("c", "c", "same"), ("b", "a", "behind")]
        book = book_of(built("moments"), "abc", told)
        self.assertIsNone(book.drop("c"))
        self.assertEqual(book.things(), ["a", "b"])
        self.assertEqual(book.sayings(), [(1, "a", "b", ["ahead"]), (5, "b", "a", ["behind"])])
        self.assertEqual((len(book), book.coming()), (2, 6))
        book.drop(name="a")
        self.assertEqual((book.things(), book.sayings(), book.coming(), len(book)), (["b"], [], 6, 0))
        book.drop("b")
        self.assertEqual((book.things(), book.sayings(), book.coming()), ([], [], 6))

    def test_brought_again_comes_last(self):
        book = book_of(built("moments"), "abc", [("a", "b", "ahead")])
        book.drop("a")
        book.thing("a")
        self.assertEqual((book.things(), book.sayings()), (["b", "c", "a"], []))
        self.assertEqual(book.say("a", "b", ["same"]), 2)

    def test_no_thing(self):
        book = book_of(built("moments"), "ab", [("a", "b", "ahead")])
        for name in ("c", "", "A", "ab"):
            self.check_refused(book, NoThing, book.drop, name, name=name)
        book.drop("a")
        self.check_refused(book, NoThing, book.drop, "a", name="a")


class Sayings(Checks):
    def test_numbers_and_kinds_in_order(self):
        book = book_of(built("moments"), "abc")
        self.assertEqual(book.say("a", "b", ["same", "ahead", "same"]), 1)
        self.assertEqual(book.say("c", "a", ["behind", "ahead"]), 2)
        self.assertEqual(book.say(kinds=["behind", "same", "ahead"], other="b", one="b"), 3)
        self.assertEqual(book.say("a", "b", ["same", "ahead"]), 4)
        self.assertEqual(book.sayings(), [
            (1, "a", "b", ["ahead", "same"]), (2, "c", "a", ["ahead", "behind"]),
            (3, "b", "b", ["ahead", "same", "behind"]), (4, "a", "b", ["ahead", "same"])])
        self.assertEqual((len(book), book.coming()), (4, 5))
        self.assertIsInstance(book.sayings()[0], tuple)

    def test_of_a_thing_and_itself(self):
        book = book_of(built("moments"), "a")
        self.assertEqual(book.say("a", "a", ["same"]), 1)
        self.assertEqual(book.say("a", "a", ["ahead"]), 2)
        self.assertEqual(book.sayings(), [(1, "a", "a", ["same"]), (2, "a", "a", ["ahead"])])

    def test_numbers_rise_on(self):
        book = book_of(built("moments"), "abc", [("a", "b", "ahead"), ("b", "c", "ahead"), ("a", "c", "ahead")])
        self.assertIsNone(book.strike(3))
        self.assertEqual(book.coming(), 4)
        self.assertEqual(book.say("a", "c", ["same"]), 4)
        book.drop("c")
        self.assertEqual([row[0] for row in book.sayings()], [1])
        self.assertEqual(book.say("a", "b", ["same"]), 5)
        book.strike(number=1)
        self.assertEqual([row[0] for row in book.sayings()], [5])
        self.assertEqual(book.coming(), 6)

    def test_forty_and_one_more(self):
        book = filled(39)
        self.assertEqual(book.say("x", "y", ["same"]), 40)
        self.assertEqual(len(book), 40)
        self.check_refused(book, Full, book.say, "x", "y", ["same"])
        book.strike(7)
        self.assertEqual(book.say("x", "x", ["same"]), 41)
        self.check_refused(book, Full, book.say, "x", "x", ["same"])
        self.assertEqual((len(book), book.coming()), (40, 42))

    def test_refusals(self):
        book = book_of(built("moments"), "ab")
        self.check_refused(book, NoThing, book.say, "c", "b", ["ahead"], name="c")
        self.check_refused(book, NoThing, book.say, "a", "c", ["ahead"], name="c")
        self.check_refused(book, NoThing, book.say, "d", "c", ["ahead"], name="d")
        self.check_refused(book, NoKind, book.say, "a", "b", ["ahead", "odd", "even"], name="odd")
        self.check_refused(book, BadSaying, book.say, "a", "b", [])

    def test_the_first_refusal_goes(self):
        book = filled(40)
        self.check_refused(book, NoThing, book.say, "c", "d", ["odd"], name="c")
        self.check_refused(book, NoThing, book.say, "x", "d", ["odd"], name="d")
        self.check_refused(book, NoThing, book.say, "c", "x", [], name="c")
        self.check_refused(book, NoThing, book.say, "x", "d", [], name="d")
        self.check_refused(book, NoKind, book.say, "x", "y", ["odd"], name="odd")
        self.check_refused(book, BadSaying, book.say, "x", "y", [])
        self.check_refused(book, Full, book.say, "x", "y", ["ahead"])

    def test_no_saying(self):
        book = filled(3)
        for number in (0, -1, 4, 10 ** 30 - 1):
            self.check_refused(book, NoSaying, book.strike, number, number=number)
        book.strike(2)
        self.check_refused(book, NoSaying, book.strike, 2, number=2)


class SayAll(Checks):
    def test_numbers(self):
        book = filled(2)
        told = book.say_all([("x", "y", ["same", "ahead"]), ("y", "x", ["behind"]), ("x", "x", ["same"])])
        self.assertEqual(told, [3, 4, 5])
        self.assertEqual(book.sayings()[2:], [
            (3, "x", "y", ["ahead", "same"]), (4, "y", "x", ["behind"]), (5, "x", "x", ["same"])])
        self.assertEqual(book.say_all(sayings=[("x", "y", ["same"])]), [6])
        self.assertEqual((len(book), book.coming()), (6, 7))

    def test_a_deed_of_its_own(self):
        book = filled(1)
        ahead = shown(book)
        book.say_all([("x", "y", ["same"])] * 3)
        behind = shown(book)
        book.undo()
        self.assertEqual(shown(book), ahead)
        book.redo()
        self.assertEqual(shown(book), behind)

    def test_refused_at_any_place(self):
        good = ("x", "y", ["ahead"])
        for bad, kind in (
            (("z", "y", ["odd"]), NoThing), (("x", "z", []), NoThing), (("x", "y", ["odd"]), NoKind),
            (("x", "y", []), BadSaying),
        ):
            for size in range(1, 5):
                for at in range(size):
                    book = filled(2)
                    told = [good] * at + [bad] + [good] * (size - at - 1)
                    self.check_refused(book, kind, book.say_all, told)
                    self.assertEqual(book.coming(), 3)

    def test_refused_as_the_first_one(self):
        book = filled(38)
        good, nothing = ("x", "y", ["ahead"]), ("z", "y", ["ahead"])
        self.check_refused(book, NoThing, book.say_all, [good, good, nothing, ("x", "y", [])], name="z")
        self.check_refused(book, NoKind, book.say_all, [good, ("x", "y", ["odd"]), nothing], name="odd")
        self.check_refused(book, Full, book.say_all, [good, good, good, nothing])
        self.check_refused(book, BadSaying, book.say_all, [good, good, ("x", "y", []), good, good])

    def test_fills_a_book_and_one_beyond(self):
        for many in (0, 1, 39):
            book = filled(many)
            self.check_refused(book, Full, book.say_all, [("x", "y", ["ahead"])] * (41 - many))
            self.assertEqual(book.say_all([("x", "y", ["ahead"])] * (40 - many)), list(range(many + 1, 41)))
            self.assertEqual(len(book), 40)
            self.check_refused(book, Full, book.say_all, [("x", "y", ["ahead"])])

    def test_the_empty_list_is_no_deed(self):
        for book in (filled(0), filled(40)):
            book.undo()
            ahead = (shown(book), history(book))
            self.assertEqual(book.say_all([]), [])
            self.assertEqual((shown(book), history(book)), ahead)
            book.redo()
            self.check_refused(book, NothingBack, book.redo)


DEEDS = {
    "thing": lambda book: book.thing("new"),
    "drop": lambda book: book.drop("b"),
    "say": lambda book: book.say("c", "a", ["same", "ahead"]),
    "strike": lambda book: book.strike(2),
    "say_all": lambda book: book.say_all([("c", "c", ["same"]), ("c", "b", ["behind"])]),
}


def three_things():
    return book_of(built("moments"), "abc", [("a", "b", "ahead"), ("b", "c", "ahead same"), ("a", "a", "same")])


class BackAndAgain(Checks):
    def test_each_deed(self):
        for name, deed in DEEDS.items():
            book = three_things()
            ahead = shown(book)
            deed(book)
            behind = shown(book)
            self.assertNotEqual(ahead, behind, name)
            for again in range(3):
                self.assertIsNone(book.undo())
                self.assertEqual(shown(book), ahead, name)
                self.assertIsNone(book.redo())
                self.assertEqual(shown(book), behind, name)
            self.check_refused(book, NothingBack, book.redo)

    def test_many_deeds_in_a_row(self):
        chance = random.Random(9)
        book = Book(built("moments"))
        stood = [shown(book)]
        for at in range(300):
            any_deed(book, chance)
            stood.append(shown(book))
        self.check_walk(book, stood)

    def check_walk(self, book, stood):
        for state in stood[-2::-1]:
            book.undo()
            self.assertEqual(shown(book), state)
        self.check_refused(book, NothingBack, book.undo)
        for state in stood[1:]:
            book.redo()
            self.assertEqual(shown(book), state)
        self.check_refused(book, NothingBack, book.redo)

    def test_undo_and_redo_among_deeds(self):
        for seed in range(20):
            chance = random.Random(seed)
            book, stood, at = Book(built("moments")), [shown(Book(built("moments")))], 0
            for turn in range(120):
                move = chance.choice(["deed", "deed", "undo", "redo"])
                if move == "deed":
                    any_deed(book, chance)
                    stood, at = stood[:at + 1] + [shown(book)], at + 1
                elif move == "undo" and at > 0:
                    book.undo()
                    at -= 1
                elif move == "redo" and at + 1 < len(stood):
                    book.redo()
                    at += 1
                self.assertEqual(shown(book), stood[at])
            for state in stood[at + 1:]:
                book.redo()
                self.assertEqual(shown(book), state)
            self.check_walk(book, stood)

    def test_the_next_number(self):
        book = three_things()
        self.assertEqual(book.say("a", "c", ["ahead"]), 4)
        book.undo()
        self.assertEqual(book.coming(), 4)
        self.assertEqual(book.say("b", "c", ["ahead"]), 4)
        book.undo()
        book.undo()
        self.assertEqual((book.coming(), len(book)), (3, 2))
        self.assertEqual(book.say_all([("a", "c", ["same"]), ("a", "c", ["same"])]), [3, 4])
        book.undo()
        self.assertEqual(book.coming(), 3)
        book.strike(2)
        book.undo()
        self.assertEqual((book.coming(), [row[0] for row in book.sayings()]), (3, [1, 2]))

    def test_a_refused_deed_lets_nothing_go(self):
        for call, told in (
            ("thing", ["B"]), ("thing", ["a"]), ("drop", ["z"]), ("say", ["a", "z", ["same"]]),
            ("say", ["a", "b", []]), ("say", ["a", "b", ["odd"]]), ("strike", [9]),
            ("say_all", [[("a", "b", ["same"]), ("a", "b", [])]]),
        ):
            book = three_things()
            behind = shown(book)
            book.undo()
            with self.assertRaises((ValueError, LookupError)):
                getattr(book, call)(*told)
            book.redo()
            self.assertEqual(shown(book), behind)

    def test_a_deed_lets_go_of_what_was_taken_back(self):
        for name, deed in DEEDS.items():
            book = three_things()
            book.undo()
            deed(book)
            self.check_refused(book, NothingBack, book.redo)
            book.undo()
            self.assertEqual(shown(book), shown(book_of(book.table(), "abc", [
                ("a", "b", "ahead"), ("b", "c", "ahead same")])))

    def test_what_only_asks_keeps_what_waits(self):
        book = three_things()
        behind = shown(book)
        book.undo()
        ahead = (shown(book), history(book))
        for again in range(2):
            told = (book.closed("a", "c"), book.why("a", "c"), book.torn(), book.things(), book.sayings(), len(book),
                    book.coming(), book.table(), shown(book.twin()))
            self.assertEqual(told[0], ["ahead"])
            self.assertEqual((shown(book), history(book)), ahead)
        book.redo()
        self.assertEqual(shown(book), behind)


class Twins(Checks):
    def test_stands_alike_with_the_same_to_undo_and_redo(self):
        book = three_things()
        book.undo()
        book.undo()
        twin = book.twin()
        self.assertIsInstance(twin, Book)
        self.assertIsNot(twin, book)
        self.assertEqual(shown(twin), shown(book))
        self.assertEqual(history(twin), history(book))
        twin.redo()
        twin.redo()
        self.assertEqual(shown(twin), shown(three_things()))
        self.check_refused(twin, NothingBack, twin.redo)

    def test_each_goes_its_own_way(self):
        for name, deed in {**DEEDS, "undo": Book.undo, "redo": Book.redo}.items():
            for first in (True, False):
                book = three_things()
                book.say("a", "b", ["same"])
                book.undo()
                other = book.twin()
                if not first:
                    book, other = other, book
                kept = (shown(other), history(other))
                deed(book)
                self.assertNotEqual(shown(book), kept[0], name)
                self.assertEqual((shown(other), history(other)), kept, name)
                deed(other)
                self.assertEqual((shown(other), history(other)), (shown(book), history(book)), name)

    def test_of_a_new_book(self):
        twin = Book(built("parts")).twin()
        twin.thing("a")
        self.assertEqual((twin.things(), twin.table()), (["a"], built("parts")))
        twin.undo()
        self.check_refused(twin, NothingBack, twin.undo)


class Lists(Checks):
    """[2]: nothing that is handed in is changed or kept, and each list that is told is a new one."""

    def test_kinds_handed_to_say(self):
        book = book_of(built("moments"), "ab")
        kinds = ["behind", "ahead", "behind"]
        book.say("a", "b", kinds)
        self.assertEqual(kinds, ["behind", "ahead", "behind"])
        kinds.clear()
        self.assertEqual(book.sayings(), [(1, "a", "b", ["ahead", "behind"])])
        kinds.append("same")
        self.assertEqual(book.closed("a", "b"), ["ahead", "behind"])

    def test_sayings_handed_to_say_all(self):
        book = book_of(built("moments"), "ab")
        kinds = ["same", "ahead"]
        sayings = [("a", "b", kinds), ("b", "a", kinds)]
        book.say_all(sayings)
        self.assertEqual((sayings, kinds), ([("a", "b", kinds), ("b", "a", kinds)], ["same", "ahead"]))
        sayings.clear()
        kinds.clear()
        self.assertEqual(book.sayings(), [(1, "a", "b", ["ahead", "same"]), (2, "b", "a", ["ahead", "same"])])
        book.undo()
        book.redo()
        self.assertEqual(book.closed("a", "b"), ["same"])

    def test_lists_that_are_told(self):
        book = three_things()
        book.say("a", "c", ["behind", "ahead"])
        for ask in (book.things, book.sayings, lambda: book.closed("a", "c"), lambda: book.why("a", "c")):
            kept = list(ask())
            self.assertTrue(kept)
            told = ask()
            told.append("odd")
            told.reverse()
            self.assertEqual(ask(), kept)
            told.clear()
            self.assertEqual(ask(), kept)
            self.assertIsNot(ask(), ask())

    def test_kinds_within_sayings(self):
        book = three_things()
        kept = shown(three_things())
        for row in book.sayings():
            row[3].clear()
        self.assertEqual(shown(book), kept)
        book.sayings()[1][3].append("behind")
        self.assertEqual(shown(book), kept)
        self.assertEqual(shown(book.twin()), kept)
        book.undo()
        book.redo()
        self.assertEqual(shown(book), kept)

    def test_numbers_told_by_say_all(self):
        book = filled(1)
        numbers = book.say_all([("x", "y", ["ahead"])] * 2)
        numbers.clear()
        self.assertEqual([row[0] for row in book.sayings()], [1, 2, 3])
        self.assertEqual(book.say_all([]), [])
        book.say_all([]).append(7)
        self.assertEqual((book.say_all([]), book.coming()), ([], 4))

    def test_lists_within_a_torn_book(self):
        book = book_of(built("moments"), "ab", [("a", "b", "ahead"), ("b", "a", "ahead")])
        for ask in (lambda: book.closed("a", "b"), lambda: book.why("a", "b"), lambda: book.closed("a", "a")):
            ask().append("odd")
            self.assertEqual(ask(), [])

    def test_table_tells_the_books_table(self):
        for table in (Table(*moments()), Table(*ring(13)), built("parts")):
            book = Book(table)
            self.assertEqual(book.table(), table)
            self.assertEqual(book.twin().table(), table)
            book.table().kinds().clear()
            self.assertEqual(book.table().kinds(), table.kinds())


if __name__ == "__main__":
    unittest.main()

"""[10], [11]: the closed web of a book, torn books, and the steps that lead to a set."""

import itertools
import random
import time
import unittest

from kindweft.book import Book
from kindweft.built import WORDS, built
from kindweft.errors import NothingBack, NoThing
from kindweft.look import bars, led
from kindweft.made import paired
from kindweft.tables import Table
from tests.making import any_deed, book_of, pentagon, ring, shown, triangle
from tests.weaving import closed_web, in_order, plain_web


def any_book(table, chance, things, sayings):
    """A book with so many things and sayings, half of these of few kinds and half of many."""
    book = book_of(table, "fbdaec"[:things])
    kinds = table.kinds()
    for at in range(sayings):
        many = chance.randint(1, len(kinds)) if chance.random() < 0.5 else max(1, len(kinds) - chance.randint(0, 2))
        book.say(chance.choice(book.things()), chance.choice(book.things()), chance.sample(kinds, many))
    return book


def true_book(table, chance, things, sayings):
    """As any_book, but each saying has same, so that it can always stand."""
    book = book_of(table, "fbdaec"[:things])
    kinds = table.kinds()
    for at in range(sayings):
        told = chance.sample(kinds, chance.randint(0, len(kinds) - 1)) + [table.same]
        book.say(chance.choice(book.things()), chance.choice(book.things()), told)
    return book


class Checks(unittest.TestCase):
    def check_closed(self, book, chance):
        """Closed and torn are as steps in any order leave them; why leads there."""
        web = closed_web(book, chance)
        table = book.table()
        torn = bool(web) and not all(web.values())
        self.assertIs(book.torn(), torn)
        for one, other in itertools.product(book.things(), repeat=2):
            self.assertEqual(book.closed(one, other), in_order(table, web[one, other]), (one, other))
            self.check_why(book, one, other, torn)
        return torn

    def check_why(self, book, one, other, torn):
        steps = book.why(one, other)
        self.assertIsInstance(steps, list)
        for step in steps:
            self.assertIsInstance(step, tuple)
            self.assertEqual(len(step), 3)
            self.assertEqual(len(set(step) & set(book.things())), 3)
        told = {(x, y): kinds for x, y, kinds in led(book, steps)}
        if torn:
            alone = plain_web(book)
            if all(alone.values()):
                self.assertIn([], list(told.values()))
            else:
                self.assertEqual(steps, [])
            self.assertTrue(bars(book, ("shut", steps)))
        elif (one, other) in told:
            self.assertEqual(told[one, other], book.closed(one, other))
        elif one != other:
            self.assertEqual(book.table().backs(told[other, one]), book.closed(one, other))


class Small(Checks):
    def test_no_things(self):
        book = Book(built("moments"))
        self.assertIs(book.torn(), False)

    def test_one_thing(self):
        book = book_of(built("moments"), "a")
        self.assertEqual((book.closed("a", "a"), book.torn()), (["same"], False))
        self.assertIsInstance(book.why("a", "a"), list)
        book.say("a", "a", ["same", "ahead"])
        self.assertEqual((book.closed("a", "a"), book.torn()), (["same"], False))
        book.say("a", "a", ["behind", "ahead"])
        self.assertEqual((book.closed("a", "a"), book.torn(), book.why("a", "a")), ([], True, []))
        book.strike(2)
        self.assertEqual((book.closed("a", "a"), book.torn()), (["same"], False))

    def test_two_things(self):
        book = book_of(built("moments"), "ab")
        every = ["ahead", "same", "behind"]
        self.assertEqual((book.closed("a", "b"), book.closed("b", "a")), (every, every))
        book.say("a", "b", ["same", "ahead"])
        self.assertEqual((book.closed("a", "b"), book.closed("b", "a")), (["ahead", "same"], ["same", "behind"]))
        book.say("b", "a", ["behind", "ahead"])
        self.assertEqual((book.closed("a", "b"), book.closed("b", "a")), (["ahead"], ["behind"]))
        self.assertEqual((book.closed("a", "a"), book.closed("b", "b"), book.torn()), (["same"], ["same"], False))
        self.assertEqual(book.closed(other="a", one="b"), ["behind"])

    def test_a_step(self):
        book = book_of(built("moments"), "abc", [("a", "b", "ahead"), ("c", "b", "behind same")])
        self.assertEqual(book.closed("a", "c"), ["ahead"])
        self.assertEqual(book.closed("c", "a"), ["behind"])
        self.assertEqual(book.why("a", "b"), [])
        self.assertEqual(len(book.why("a", "c")), 1)
        self.assertEqual(len(book.why(other="a", one="c")), 1)

    def test_a_chain_in_any_order_of_things(self):
        # What follows comes about over many steps, and in some orders late steps change what early ones had left.
        for things in list(itertools.permutations("abcdef"))[::7]:
            told = [(one, other, "ahead") for one, other in ("fe", "ed", "dc", "cb", "ba")]
            book = book_of(built("moments"), things, told)
            for one, other in itertools.combinations("abcdef", 2):
                self.assertEqual((book.closed(one, other), book.closed(other, one)), (["behind"], ["ahead"]))
            self.check_why(book, "f", "a", False)

    def test_a_round_in_any_order_of_things(self):
        for things in list(itertools.permutations("abcdef"))[::7]:
            told = [(one, other, "ahead") for one, other in ("fe", "ed", "dc", "cb", "ba", "af")]
            book = book_of(built("moments"), things, told)
            self.assertEqual((book.torn(), book.closed("a", "c")), (True, []))
            for one in things:
                self.check_why(book, one, "a", True)

    def test_steps_alone_do_not_tell_all(self):
        # No six things of a pentagon are unlike, yet no step changes anything.
        told = [(one, other, "red blue") for one, other in itertools.combinations("abcdef", 2)]
        book = book_of(Table(*pentagon()), "abcdef", told)
        self.assertIs(book.torn(), False)
        self.assertEqual(book.closed("f", "a"), ["red", "blue"])
        self.assertEqual(book.why("f", "a"), [])


class Torn(Checks):
    def check_torn(self, book):
        self.assertIs(book.torn(), True)
        for one, other in itertools.product(book.things(), repeat=2):
            self.assertEqual(book.closed(one, other), [])
        self.check_closed(book, random.Random(1))

    def test_by_steps(self):
        told = [("a", "b", "ahead"), ("b", "c", "ahead"), ("c", "a", "ahead same")]
        for things in ("abc", "dabc", "abcdef"):
            book = book_of(built("moments"), things, told)
            self.check_torn(book)
            self.assertNotEqual(book.why("a", "a"), [])

    def test_by_sayings_of_one_pair(self):
        for things in ("ab", "abc", "fedcba"):
            for told in (
                [("a", "b", "ahead"), ("a", "b", "behind same")],
                [("a", "b", "ahead"), ("b", "a", "ahead")],
                [("b", "a", "same behind"), ("a", "b", "same"), ("b", "a", "ahead behind")],
            ):
                book = book_of(built("moments"), things, told)
                self.check_torn(book)
                self.assertEqual(book.why("a", "b"), [])
                self.assertEqual(book.why(things[-1], things[-1]), [])

    def test_by_a_saying_of_a_thing_and_itself(self):
        for things in ("a", "ab", "abc", "fedcba"):
            book = book_of(built("moments"), things, [("a", "a", "ahead behind")])
            self.check_torn(book)
            self.assertEqual(book.why("a", things[-1]), [])

    def test_no_more_torn(self):
        book = book_of(built("moments"), "abc", [("a", "b", "ahead"), ("b", "a", "ahead")])
        self.assertTrue(book.torn())
        book.undo()
        self.assertFalse(book.torn())
        self.assertEqual(book.closed("b", "a"), ["behind"])
        book.redo()
        self.assertTrue(book.torn())
        book.strike(1)
        self.assertEqual((book.torn(), book.closed("b", "a")), (False, ["ahead"]))
        book.say("b", "b", ["ahead"])
        self.assertTrue(book.torn())
        book.drop("b")
        self.assertEqual((book.torn(), book.closed("c", "a")), (False, ["ahead", "same", "behind"]))


class BesideStepsInAnyOrder(Checks):
    def test_each_built_table(self):
        for word in WORDS:
            chance = random.Random(word)
            table = built(word)
            seen = set()
            for things, sayings in itertools.product((1, 2, 3, 4), (0, 1, 2, 4, 7)):
                for maker in (any_book, true_book):
                    seen.add(self.check_closed(maker(table, chance, things, sayings), chance))
            self.assertEqual(seen, {True, False})

    def test_six_things(self):
        for word in WORDS:
            chance = random.Random(word + "6")
            for sayings in (6, 12):
                self.check_closed(true_book(built(word), chance, 6, sayings), chance)
            self.check_closed(any_book(built(word), chance, 6, 9), chance)

    def test_forty_sayings(self):
        for word in WORDS:
            chance = random.Random(word + "40")
            book = true_book(built(word), chance, 6, 40)
            self.assertEqual(len(book), 40)
            self.check_closed(book, chance)

    def test_other_tables(self):
        chance = random.Random(4)
        tables = [Table(*ring(1)), Table(*ring(5)), Table(*ring(13)), Table(*pentagon()), Table(*triangle())]
        tables.append(paired(built("moments"), built("branches")))
        for table in tables:
            for maker in (any_book, true_book):
                for things, sayings in ((2, 1), (3, 3), (4, 5), (5, 6)):
                    self.check_closed(maker(table, chance, things, sayings), chance)


class BehindEachDeed(Checks):
    def check_as_anew(self, book):
        """Closed and torn are those of a book made anew with the same sayings."""
        anew = Book(book.table())
        for name in book.things():
            anew.thing(name)
        anew.say_all([(one, other, kinds) for number, one, other, kinds in book.sayings()])
        self.assertIs(book.torn(), anew.torn())
        for one, other in itertools.product(book.things(), repeat=2):
            self.assertEqual(book.closed(one, other), anew.closed(one, other))
        for one in book.things():
            self.check_why(book, one, book.things()[0], anew.torn())

    def test_deeds_undo_and_redo(self):
        for word in WORDS:
            chance = random.Random(word + "deeds")
            book = Book(built(word))
            for turn in range(60):
                try:
                    chance.choice([any_deed, any_deed, any_deed, undo, redo])(book, chance)
                except NothingBack:
                    pass
                self.check_as_anew(book)


def undo(book, chance):
    book.undo()


def redo(book, chance):
    book.redo()


class NoThings(unittest.TestCase):
    def test_the_first_one_handed_in_first(self):
        book = book_of(built("moments"), "ab", [("a", "b", "ahead"), ("b", "a", "ahead")])
        ahead = shown(book)
        for call in (book.closed, book.why):
            for one, other, name in (
                ("x", "a", "x"), ("a", "x", "x"), ("x", "y", "x"), ("x", "x", "x"), ("", "a", ""), ("A", "a", "A"),
            ):
                with self.assertRaises(NoThing) as caught:
                    call(one, other)
                self.assertEqual(caught.exception.name, name)
        self.assertEqual(shown(book), ahead)

    def test_of_an_empty_book(self):
        book = Book(built("moments"))
        for call in (book.closed, book.why):
            with self.assertRaises(NoThing) as caught:
                call("b", "a")
            self.assertEqual(caught.exception.name, "b")

    def test_a_thing_that_was_dropped(self):
        book = book_of(built("moments"), "ab")
        book.drop("a")
        with self.assertRaises(NoThing):
            book.closed("b", "a")


class Time(unittest.TestCase):
    def test_six_things_and_forty_sayings_over_thirteen_kinds(self):
        chance = random.Random(40)
        for table in (built("stretches"), Table(*ring(13))):
            for maker in (true_book, any_book):
                book = maker(table, chance, 6, 40)
                for ask in (lambda: book.closed("a", "b"), lambda: book.why("a", "b"), book.torn):
                    begun = time.perf_counter()
                    ask()
                    self.assertLess(time.perf_counter() - begun, 0.5)


if __name__ == "__main__":
    unittest.main()

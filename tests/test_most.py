"""[14]: how many cases are looked at; [15] lot; what is broken off changes nothing."""

import itertools
import random
import unittest

from kindweft.book import Book
from kindweft.built import built
from kindweft.errors import Broken, NoStanding
from kindweft.look import bars
from kindweft.search import MOST, count, follows, least, lot, nth, standing
from kindweft.tables import Table
from tests.making import book_of, lenient, loosely_said, pentagon, ring, triangle, unwound, waiting_book
from tests.test_search import six_unlike, tables
from tests.weaving import can_stand, plain_lot, steps_settle, with_saying


def chained():
    """A free chain: steps settle its ends, but not all pairs."""
    return book_of(built("moments"), "abcd", [("a", "b", "ahead"), ("b", "c", "ahead"), ("c", "d", "ahead same")])


def five_kinds_for_each_two():
    """Four things, of which each two have five kinds that let each other by."""
    table = Table(*lenient(6))
    kinds = " ".join(table.kinds()[1:])
    return book_of(table, "abcd", [(one, other, kinds) for one, other in itertools.combinations("abcd", 2)])


class Checks(unittest.TestCase):
    def check_broken(self, most, ask):
        with self.assertRaises(Broken) as caught:
            ask()
        self.assertEqual((caught.exception.most, caught.exception.word), (most, "Broken"))

    def check_settled(self, settled, ask):
        """With no cases just what steps alone settle is answered, and as it is by default."""
        if settled:
            self.assertEqual(ask(most=0), ask())
        else:
            self.check_broken(0, lambda: ask(most=0))


class Nought(Checks):
    def books(self, seed):
        chance = random.Random(seed)
        for table in tables():
            for things in range(6):
                for sayings in (0, things, 2 * things, 3 * things):
                    yield loosely_said(table, chance, things, sayings, 3)

    def test_standing_and_count(self):
        seen = []
        for book in self.books(11):
            settled = steps_settle(book)
            seen.append(settled)
            self.check_settled(settled, lambda **more: standing(book, **more))
            self.check_settled(settled, lambda **more: count(book, **more))
        self.assertGreater(seen.count(True), 60)
        self.assertGreater(seen.count(False), 60)

    def test_follows(self):
        chance = random.Random(12)
        seen = []
        for book in self.books(13):
            kinds = book.table().kinds()
            for one, other in itertools.product(book.things()[:3], repeat=2):
                asked = chance.sample(kinds, chance.randint(0, len(kinds)))
                others = [kind for kind in kinds if kind not in asked]
                settled = not others or steps_settle(with_saying(book, one, other, others))
                seen.append(settled)
                self.check_settled(settled, lambda **more: follows(book, one, other, asked, **more))
        self.assertGreater(seen.count(True), 100)
        self.assertGreater(seen.count(False), 100)

    def test_least(self):
        seen = []
        for book in self.books(14):
            kinds = book.table().kinds()
            for one, other in itertools.product(book.things()[:2], repeat=2):
                settled = all([steps_settle(with_saying(book, one, other, [kind])) for kind in kinds])
                seen.append(settled)
                self.check_settled(settled, lambda **more: least(book, one, other, **more))
        self.assertGreater(seen.count(True), 100)
        self.assertGreater(seen.count(False), 100)

    def test_taking_a_pair_kind_by_kind_is_no_case(self):
        book = book_of(built("stretches"), "ab")
        self.assertEqual(len(least(book, "a", "b", most=0)), 13)
        self.assertEqual(len(least(book, "b", "a", most=0)), 13)
        self.check_broken(0, lambda: least(book, "a", "a", most=0))

    def test_lot(self):
        seen = []
        for book in self.books(15):
            settled = self.lot_is_settled(book)
            seen.append(settled)
            self.check_settled(settled, lambda **more: lot(book, **more))
        self.assertGreater(seen.count(True), 40)
        self.assertGreater(seen.count(False), 40)

    def lot_is_settled(self, book):
        """Whether steps alone settle each book that is looked at."""
        if not steps_settle(book):
            return False
        if can_stand(book):
            return True
        left = book.twin()
        for number in [row[0] for row in book.sayings()]:
            fewer = left.twin()
            fewer.strike(number)
            if not steps_settle(fewer):
                return False
            if not can_stand(fewer):
                left = fewer
        return True

    def test_nth(self):
        book = book_of(built("moments"), "ab", [("a", "b", "behind")])
        self.assertEqual(nth(book, 0, most=0), [("a", "b", "behind")])
        with self.assertRaises(NoStanding) as caught:
            nth(book, 1, most=0)
        self.assertEqual(caught.exception.at, 1)
        free = book_of(built("moments"), "ab")
        self.check_broken(0, lambda: nth(free, 0, most=0))
        with self.assertRaises(NoStanding):
            nth(free, -1, most=0)


class Enough(Checks):
    def test_default(self):
        self.assertEqual(MOST, 3000)

    def test_one_case(self):
        # Two things have but one pair: parted once, each of its kinds is a standing.
        for table in tables()[:5]:
            book = book_of(table, "ab")
            self.assertEqual(standing(book, most=1), ("stands", [("a", "b", table.kinds()[0])]))
            self.assertEqual(count(book, most=1), len(table))
            self.assertEqual(nth(book, len(table) - 1, most=1), [("a", "b", table.kinds()[-1])])
            self.assertEqual(follows(book, "b", "a", [], most=1)[0], "open")
            self.assertEqual(least(book, "a", "a", most=1), [("same", [("a", "b", table.kinds()[0])])])
            self.assertEqual(lot(book, most=1), None)

    def test_answered_the_same_from_some_number_on(self):
        book = six_unlike()
        asked = chained()
        clash = six_unlike()
        clash.say("a", "b", ["red"])
        for ask in (
            lambda most: standing(book, most=most), lambda most: follows(asked, "a", "d", ["same"], most=most),
            lambda most: least(asked, "a", "d", most=most), lambda most: count(asked, most=most),
            lambda most: lot(clash, most=most), lambda most: nth(asked, 1, most=most),
            lambda most: follows(book, "a", "b", ["red"], most=most),
        ):
            enough = next(most for most in range(MOST) if self.answers(ask, most))
            self.assertGreater(enough, 0)
            told = ask(MOST)
            for most in (enough, enough + 1, enough + 50, 10 ** 30 - 1):
                self.assertEqual(ask(most), told)
            self.check_broken(enough - 1, lambda: ask(enough - 1))

    def answers(self, ask, most):
        try:
            ask(most)
        except Broken as broken:
            self.assertEqual(broken.most, most)
            return False
        return True

    def test_fifteen_thousand_standings(self):
        book = five_kinds_for_each_two()
        self.check_broken(3000, lambda: count(book))
        self.assertEqual(count(book, most=10000), 15625)
        self.check_broken(3000, lambda: nth(book, 15624))
        self.assertEqual(nth(book, 15624, most=10000), [(x, y, "kindf") for x, y in itertools.combinations("abcd", 2)])
        self.assertEqual(nth(book, 0), [(x, y, "kindb") for x, y in itertools.combinations("abcd", 2)])

    def test_cases_are_told_together_for_all_kinds_of_least(self):
        # Each of the three kinds leaves pairs that steps do not settle, so there are three cases at least.
        book = book_of(built("moments"), "abc")
        self.check_broken(2, lambda: least(book, "a", "b", most=2))
        self.assertEqual(len(least(book, "a", "b", most=9)), 3)

    def test_cases_are_told_apart_for_each_book_of_lot(self):
        # Either saying left out leaves a third thing free, which two cases settle at most.
        book = book_of(built("moments"), "abc", [("a", "b", "ahead"), ("b", "a", "ahead")])
        self.check_broken(0, lambda: lot(book, most=0))
        self.assertEqual(lot(book, most=2), [1, 2])


class BrokenOff(Checks):
    def test_books_stay(self):
        book = waiting_book()
        kept, closed = unwound(book), book.closed("a", "d")
        for ask in (
            lambda: standing(book, most=0), lambda: follows(book, "a", "d", [], most=0),
            lambda: least(book, "a", "d", most=0), lambda: count(book, most=1), lambda: nth(book, 3, most=0),
            lambda: lot(book, most=0),
        ):
            with self.assertRaises(Broken):
                ask()
            self.assertEqual(unwound(book), kept)
            self.assertEqual(book.closed("a", "d"), closed)

    def test_asked_again_with_enough(self):
        book = five_kinds_for_each_two()
        sets = [book.closed(one, other) for one, other in itertools.product("abcd", repeat=2)]
        told = standing(book)
        self.check_broken(3000, lambda: count(book))
        self.assertEqual([book.closed(one, other) for one, other in itertools.product("abcd", repeat=2)], sets)
        self.assertEqual(standing(book), told)


class Lot(unittest.TestCase):
    def check(self, book):
        told = lot(book)
        self.assertEqual(told, plain_lot(book))
        if told is not None:
            alone = book.twin()
            for number in [row[0] for row in book.sayings() if row[0] not in told]:
                alone.strike(number)
            self.assertFalse(can_stand(alone))
            for number in told:
                fewer = alone.twin()
                fewer.strike(number)
                self.assertTrue(can_stand(fewer))
        return told

    def test_beside_leaving_out(self):
        chance = random.Random(16)
        seen = []
        for table in tables():
            # Where there are many kinds it would take too long to find by plain trials that many things cannot stand.
            for things in range(1, 7 if len(table) <= 3 else 5):
                for sayings in (things, 2 * things, 2 * things, 3 * things) * 3:
                    book = loosely_said(table, chance, things, sayings, 3)
                    for number in chance.sample(range(1, sayings + 1), sayings // 4):
                        book.strike(number)
                    seen.append(self.check(book))
        self.assertGreater(seen.count(None), 50)
        self.assertGreater(len([told for told in seen if told and len(told) > 2]), 30)

    def test_none(self):
        for book in (Book(built("moments")), book_of(built("parts"), "ab"), chained()):
            self.assertIsNone(lot(book))

    def test_left_out_in_rising_order(self):
        # Of two pairs of sayings that clash the one that is told last stays.
        book = book_of(built("moments"), "ab", [("a", "b", "ahead"), ("a", "b", "same"), ("b", "a", "ahead")])
        self.assertEqual(lot(book), [2, 3])
        book.strike(2)
        book.say("a", "b", ["same", "behind"])
        book.say("a", "b", ["same", "ahead"])
        self.assertEqual(lot(book), [3, 5])

    def test_numbers_with_gaps(self):
        book = book_of(built("moments"), "abc", [
            ("a", "b", "same"), ("a", "b", "ahead"), ("b", "c", "same"), ("b", "c", "ahead"), ("c", "a", "ahead")])
        book.strike(1)
        book.strike(3)
        self.assertEqual(lot(book), [2, 4, 5])

    def test_of_steps_that_tell_nothing(self):
        book = six_unlike()
        told = lot(book)
        self.assertEqual(told, list(range(1, 16)))
        book.say("a", "b", ["red"])
        self.assertEqual(lot(book), list(range(2, 17)))

    def test_a_thing_with_itself(self):
        book = book_of(built("moments"), "ab", [("a", "b", "ahead"), ("a", "a", "same ahead"), ("a", "a", "ahead")])
        self.assertEqual(lot(book), [3])
        alone = book_of(built("moments"), "a", [("a", "a", "ahead"), ("a", "a", "behind")])
        self.assertEqual(lot(alone), [2])
        self.assertEqual(lot(alone, most=0), [2])

    def test_forty_sayings(self):
        book = book_of(built("moments"), "abcdef", [("a", "b", "ahead"), ("c", "d", "same")] * 19)
        book.say("b", "e", ["ahead"])
        book.say("e", "a", ["ahead", "same"])
        self.assertEqual(lot(book), [37, 39, 40])

    def test_told_anew_and_books_stay(self):
        book = waiting_book()
        book.say("d", "b", ["same"])
        book.say("d", "b", ["ahead"])
        book.undo()
        kept = unwound(book)
        told = lot(book)
        self.assertEqual(told, [5, 6])
        told.clear()
        self.assertEqual(lot(book=book, most=3000), [5, 6])
        self.assertEqual(unwound(book), kept)
        with self.assertRaises(TypeError):
            lot(book, 9)


class ManyCases(unittest.TestCase):
    def test_trees_of_many_cases(self):
        for parts, things in ((ring(13), "abcd"), (triangle(), "abcde"), (pentagon(), "abcdef")):
            table = Table(*parts)
            kinds = table.kinds()
            chance = random.Random(17)
            barred = 0
            while barred < 3:
                book = book_of(table, things)
                for one, other in itertools.combinations(things, 2):
                    book.say(one, other, chance.sample(kinds, 2))
                word, tree = standing(book)
                self.assertEqual(word == "stands", can_stand(book))
                if word == "barred":
                    barred += 1
                    self.assertTrue(bars(book, tree))


if __name__ == "__main__":
    unittest.main()

"""What holds over the whole program, and that the great askings keep to time."""

import itertools
import random
import time
import unittest

from kindweft.built import WORDS, built, read_off
from kindweft.desk import Desk
from kindweft.drawn import drawn
from kindweft.errors import Broken
from kindweft.lead import coarser_book, joined, paired_book, turned_book
from kindweft.look import bars, fits, led
from kindweft.made import coarser, paired, renamed, turned
from kindweft.pages import page, read_page
from kindweft.search import count, follows, least, lot, nth, standing
from kindweft.tables import Table
from tests.making import book_of, lenient, loosely_said, unwound, waiting_book
from tests.test_most import five_kinds_for_each_two
from tests.test_search import six_unlike, tables
from tests.weaving import few_standings

COURSES = ["nw", "n", "ne", "w", "same", "e", "sw", "s", "se"]


def any_thing(word, chance):
    """Some moment, stretch, course, branch or part, small enough that two often touch."""
    if word == "moments":
        return chance.randint(0, 3)
    if word == "stretches":
        start = chance.randint(0, 3)
        return (start, start + chance.randint(1, 3))
    if word == "courses":
        return (chance.randint(0, 2), chance.randint(0, 2))
    if word == "branches":
        return tuple(chance.randint(0, 1) for at in range(chance.randint(1, 3)))
    return sorted(chance.sample(range(4), chance.randint(1, 4)))


def seen_as(word, things):
    """The standing of things that are there, by their names."""
    return [(x, y, read_off(word, things[x], things[y])) for x, y in itertools.combinations(things, 2)]


class OfThingsThatAreThere(unittest.TestCase):
    """Sayings that are true of things that are there: no step, page or lead may lose how these stand."""

    def any_true_book(self, word, chance):
        things = {name: any_thing(word, chance) for name in "dbface"[:chance.randint(2, 6)]}
        book = book_of(built(word), things)
        for at in range(chance.randint(1, 9)):
            one, other = chance.choice(list(things)), chance.choice(list(things))
            told = chance.sample(book.table().kinds(), chance.randint(0, 3))
            book.say(one, other, told + [read_off(word, things[one], things[other])])
        return book, things

    def test_no_standing_is_lost(self):
        chance = random.Random(51)
        for word in WORDS:
            for trial in range(12):
                book, things = self.any_true_book(word, chance)
                found = seen_as(word, things)
                self.assertTrue(fits(book, found))
                self.assertEqual(standing(book)[0], "stands")
                self.assertIsNone(lot(book))
                for one, other, kind in found:
                    self.assertIn(kind, book.closed(one, other))
                    self.assertIn(kind, [row[0] for row in least(book, one, other)])
                    others = [name for name in built(word).kinds() if name != kind]
                    self.assertEqual(follows(book, one, other, others)[0], "open")
                    self.assertTrue(set(row[0] for row in least(book, one, other)) <= set(book.closed(one, other)))

    def test_no_standing_is_lost_by_a_step(self):
        chance = random.Random(52)
        for table in tables():
            book = loosely_said(table, chance, 4, 4, 3)
            told = (few_standings(book, 20000) or [])[:200]
            steps = list(itertools.permutations(book.things(), 3))
            for size in range(0, 24, 6):
                sets = {row[:2]: row[2] for row in led(book, chance.sample(steps, size))}
                for found in told:
                    self.assertTrue(all(kind in sets[one, other] for one, other, kind in found))

    def test_first_standings_are_drawn_and_read_off(self):
        chance = random.Random(53)
        for word in WORDS:
            for trial in range(8):
                book, things = self.any_true_book(word, chance)
                found = standing(book)[1]
                shown = dict(drawn(word, book.things(), found))
                self.assertEqual(seen_as(word, {name: shown[name] for name in book.things()}), found)

    def test_a_table_turned_and_read_off(self):
        chance = random.Random(54)
        for word in WORDS:
            for trial in range(12):
                book, things = self.any_true_book(word, chance)
                turn = turned_book(book)
                self.assertEqual(turn.table(), turned(built(word)))
                names = list(things)
                about = [(x, y, read_off(word, things[y], things[x])) for x, y in itertools.combinations(names, 2)]
                self.assertTrue(fits(turn, about))
                self.assertEqual(standing(turn)[0], "stands")

    def test_courses_are_the_pairs_of_moments(self):
        table = paired(built("moments"), built("moments"), names=COURSES)
        self.assertEqual(table, built("courses"))
        chance = random.Random(55)
        for trial in range(20):
            across, along = self.two_ways(chance)
            book = paired_book(along, across, table)
            self.assertEqual(count(book), count(along) * count(across))
            self.assertEqual(standing(book)[0] == "stands", lot(along) is None and lot(across) is None)

    def two_ways(self, chance):
        """Two books of moments with the same things."""
        sayings = chance.randint(2, 5)
        return [loosely_said(built("moments"), chance, 3, sayings, 2) for again in range(2)]


class NamedOtherwise(unittest.TestCase):
    """Other names for kinds and things: the same answers with the other names."""

    def renaming(self, book, chance):
        """A book that stands alike under other names, and how to lead an answer over."""
        kinds, things = book.table().kinds(), book.things()
        letters = chance.sample("abcdefghijklmnopqrstuvwxyz", len(kinds))
        kind_names = {kind: f"k{letter}" for kind, letter in zip(kinds, letters)}
        thing_names = dict(zip(things, chance.sample(["book", "thing", "say", "next", "z", "abcdefgh"], len(things))))
        other = book_of(renamed(book.table(), [kind_names[kind] for kind in kinds]), thing_names.values())
        for number, x, y, said in book.sayings():
            other.say(thing_names[x], thing_names[y], [kind_names[kind] for kind in said])
        # Names of things and of kinds are unlike here, and unlike the words of trees.
        words = {**{f"T{name}": called for name, called in thing_names.items()}, **kind_names}
        return other, words

    def lead(self, told, words, things):
        if isinstance(told, list):
            return [self.lead(part, words, things) for part in told]
        if isinstance(told, tuple):
            return tuple(self.lead(part, words, things) for part in told)
        return words[f"T{told}"] if told in things else words.get(told, told)

    def test_each_asking(self):
        chance = random.Random(56)
        for table in tables():
            for size in (2, 3, 5):
                book = loosely_said(table, chance, size, 2 * size, 3)
                other, words = self.renaming(book, chance)
                things = book.things()
                self.check(book, other, words, things, chance)

    def check(self, book, other, words, things, chance):
        kinds = chance.sample(book.table().kinds(), min(2, len(book.table())))
        one, two = chance.choice(things), chance.choice(things)
        led_one, led_two = words[f"T{one}"], words[f"T{two}"]
        led_kinds = [words[kind] for kind in kinds]
        for told, led_over in (
            (standing(book), standing(other)), (lot(book), lot(other)), (book.torn(), other.torn()),
            (follows(book, one, two, kinds), follows(other, led_one, led_two, led_kinds)),
            (least(book, one, two), least(other, led_one, led_two)),
            (book.closed(one, two), other.closed(led_one, led_two)),
        ):
            self.assertEqual(self.lead(told, words, things), led_over)
        if few_standings(book, 500) is not None:
            self.assertEqual(count(book), count(other))
            if count(book):
                at = chance.randrange(count(book))
                self.assertEqual(self.lead(nth(book, at), words, things), nth(other, at))


class SaidAndSaidAgain(unittest.TestCase):
    def test_joined_with_itself_stands_as_it_does(self):
        chance = random.Random(57)
        for table in tables():
            book = loosely_said(table, chance, 3, 4, 3)
            twice = joined(book, book)
            self.assertEqual(standing(twice), standing(book))
            self.assertEqual(count(twice, most=10 ** 6), count(book, most=10 ** 6))

    def test_a_page_answers_as_its_book(self):
        chance = random.Random(58)
        for table in tables():
            book = loosely_said(table, chance, 4, 6, 3)
            read = read_page(page(book))
            self.assertEqual(standing(read), standing(book))
            self.assertEqual(lot(read), lot(book))

    def test_what_is_told_in_trees_bars_by_the_looker_alone(self):
        chance = random.Random(59)
        barred = 0
        for table in tables():
            for trial in range(6):
                book = loosely_said(table, chance, 5, 9, 2)
                word, found = standing(book)
                barred += word == "barred"
                self.assertEqual(bars(book, found), word == "barred")
                self.assertEqual(fits(book, found), word == "stands")
        self.assertGreater(barred, 20)

    def test_least_of_all_pairs_is_no_wider_than_closed(self):
        book = six_unlike()
        book.strike(15)
        for one, other in itertools.permutations("abcdef", 2):
            told = [kind for kind, found in least(book, one, other)]
            self.assertTrue(set(told) <= set(book.closed(one, other)))
        self.assertEqual(least(book, "e", "f")[0][0], "same")


class Lists(unittest.TestCase):
    """[2]: each list that is told, changed by its holder, is told as rightly again."""

    def spoil(self, told):
        if isinstance(told, (list, tuple)):
            for part in told:
                self.spoil(part)
        if isinstance(told, list):
            told.append("odd")
            told.reverse()

    def test_whatever_is_told(self):
        waiting, barred = waiting_book(), six_unlike()
        desk = Desk(built("moments"))
        desk.say("thing a")
        desk.say("say a a same")
        blocks = [["same"], ["ahead", "behind"]]
        table = coarser(built("moments"), blocks, ["same", "other"])
        asked = [
            lambda: standing(waiting), lambda: standing(barred), lambda: follows(waiting, "a", "d", ["same"]),
            lambda: follows(barred, "a", "d", ["same"]), lambda: follows(waiting, "a", "b", built("moments").kinds()),
            lambda: least(waiting, "d", "a"), lambda: nth(waiting, 1), lambda: lot(barred), lambda: waiting.things(),
            lambda: waiting.sayings(), lambda: waiting.closed("a", "c"), lambda: waiting.why("a", "c"),
            lambda: read_page(page(waiting)).sayings(), lambda: desk.book().sayings(), lambda: desk.book().things(),
            lambda: paired_book(waiting, waiting, built("courses")).sayings(), lambda: turned_book(waiting).sayings(),
            lambda: coarser_book(waiting, table, blocks).sayings(), lambda: joined(waiting, waiting).sayings(),
            lambda: led(waiting, []), lambda: waiting.table().kinds(), lambda: waiting.table().step("ahead", "behind"),
        ]
        kept = unwound(waiting)
        for ask in asked:
            told = ask()
            first = repr(told)
            self.spoil(told)
            self.assertEqual(repr(ask()), first)
            self.assertEqual(unwound(waiting), kept)
        self.assertEqual(blocks, [["same"], ["ahead", "behind"]])

    def test_one_book_that_was_told_from(self):
        made = joined(waiting_book(), waiting_book())
        rows = made.sayings()
        self.spoil(rows)
        self.spoil(made.things())
        self.assertEqual(made.sayings(), joined(waiting_book(), waiting_book()).sayings())
        self.assertEqual(made.things(), waiting_book().things())


class Times(unittest.TestCase):
    """Each of these is asked in about a second."""

    def check_time(self, ask, seconds=1):
        start = time.perf_counter()
        told = ask()
        self.assertLess(time.perf_counter() - start, seconds)
        return told

    def six(self, word, chance):
        """Books of six things: free, said of all pairs, full of sayings, and such as cannot stand."""
        pairs = list(itertools.combinations("abcdef", 2))
        kinds = built(word).kinds()
        books = [book_of(built(word), "abcdef")]
        for many in (len(kinds) // 4, len(kinds) // 2, len(kinds) - 2):
            told = [(x, y, " ".join(chance.sample(kinds, many))) for x, y in pairs]
            books.append(book_of(built(word), "abcdef", told))
            books.append(book_of(built(word), "abcdef", told[:9]))
        full = book_of(built(word), "abcdef")
        for at in range(40):
            one, other = chance.sample("abcdef", 2)
            full.say(one, other, chance.sample(kinds, len(kinds) - 2))
        return books + [full]

    def test_six_things(self):
        chance = random.Random(60)
        for word in ("stretches", "courses"):
            for book in self.six(word, chance):
                kinds = chance.sample(built(word).kinds(), 3)
                found = self.check_time(lambda: standing(book))[1]
                self.assertTrue(fits(book, found) or bars(book, found))
                self.check_time(lambda: follows(book, "b", "e", kinds))
                self.check_time(lambda: least(book, "f", "c"))
                self.check_time(lambda: lot(book))

    def test_six_things_at_a_desk(self):
        for word in ("stretches", "courses"):
            kinds = " ".join(built(word).kinds()[2:6])
            desk = Desk(built(word))
            for name in "abcdef":
                desk.say(f"thing {name}")
            for at, (one, other) in enumerate(list(itertools.combinations("abcdef", 2)) * 2):
                self.check_time(lambda: desk.say(f"say {one} {other} {kinds}"))
                if at % 5 == 0:
                    for line in ("stands", f"follows a f {kinds}", "kinds b e", "lot", "closed c d", "page"):
                        self.check_time(lambda: desk.say(line))

    def test_counts(self):
        book = book_of(built("moments"), "abcde")
        self.assertEqual(self.check_time(lambda: count(book)), 541)
        desk = Desk(built("moments"))
        for name in "abcde":
            desk.say(f"thing {name}")
        self.assertEqual(self.check_time(lambda: desk.say("count")), "541")

    def test_broken_by_default(self):
        free = [book_of(built(word), "abcdef") for word in ("stretches", "courses", "branches", "parts")]
        for book in free + [book_of(Table(*lenient(13)), "abcdef"), five_kinds_for_each_two()]:
            for ask in (lambda: count(book), lambda: nth(book, 10 ** 9)):
                self.assertEqual(self.check_time(lambda: self.broken(ask), 4), 3000)

    def broken(self, ask):
        with self.assertRaises(Broken) as caught:
            ask()
        return caught.exception.most


if __name__ == "__main__":
    unittest.main()

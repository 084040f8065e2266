"""[16]: things drawn as a standing tells."""

import itertools
import random
import unittest

from kindweft.built import WORDS, built, read_off
from kindweft.drawn import drawn
from kindweft.errors import NoTable
from tests.making import book_of
from tests.weaving import standings


def is_number(held):
    return isinstance(held, int) and not isinstance(held, bool) and held >= 0


def is_rising(held):
    return all(one < other for one, other in zip(held, held[1:]))


def is_pair(held):
    return isinstance(held, tuple) and len(held) == 2 and all(map(is_number, held))


FORMS = {
    "moments": is_number,
    "stretches": lambda held: is_pair(held) and held[0] < held[1],
    "courses": is_pair,
    "branches": lambda held: isinstance(held, tuple) and len(held) >= 1 and all(map(is_number, held)),
    "parts": lambda held: isinstance(held, list) and len(held) >= 1 and all(map(is_number, held)) and is_rising(held),
}


def any_thing(word, chance):
    """A thing of the word's sort, of few numbers, so that many ways to stand come up."""
    numbers = range(4)
    if word == "moments":
        return chance.choice(numbers)
    if word == "stretches":
        return tuple(sorted(chance.sample(range(7), 2)))
    if word == "courses":
        return (chance.choice(numbers), chance.choice(numbers))
    if word == "branches":
        return tuple(chance.choice((0, 1)) for storey in range(chance.randint(1, 4)))
    return sorted(chance.sample(range(5), chance.randint(1, 4)))


class Checks(unittest.TestCase):
    def check_drawn(self, word, things, standing):
        told = drawn(word, things, standing)
        self.assertIsInstance(told, list)
        self.assertTrue(all(isinstance(row, tuple) and len(row) == 2 for row in told))
        self.assertEqual([row[0] for row in told], things)
        held = dict(told)
        for thing in things:
            self.assertTrue(FORMS[word](held[thing]), (word, held[thing]))
        for one, other, kind in standing:
            self.assertEqual(read_off(word, held[one], held[other]), kind, (word, standing))


class Drawn(Checks):
    def test_no_things(self):
        for word in WORDS:
            self.assertEqual(drawn(word, [], []), [])

    def test_one_thing(self):
        for word in WORDS:
            self.check_drawn(word, ["a"], [])

    def test_each_kind(self):
        for word in WORDS:
            for kind in built(word).kinds():
                self.check_drawn(word, ["a", "b"], [("a", "b", kind)])
                self.check_drawn(word, ["b", "a"], [("a", "b", kind)])

    def test_each_standing_of_three_things(self):
        for word in WORDS:
            for order, standing in zip(itertools.cycle(itertools.permutations("abc")), standings(book_of(
                    built(word), "abc"))):
                self.check_drawn(word, list(order), standing)

    def test_each_standing_of_four_things(self):
        for word in ("moments", "branches", "parts"):
            orders = itertools.cycle(itertools.permutations("abcd"))
            many = 0
            for order, standing in zip(orders, standings(book_of(built(word), "abcd"))):
                if word != "parts" or many % 5 == 0:
                    self.check_drawn(word, list(order), standing)
                many += 1

    def test_many_standings_of_five_and_six_things(self):
        for word in WORDS:
            chance = random.Random(word)
            for turn in range(40):
                things = chance.sample("abcdef", chance.choice((5, 6)))
                standing = next(standings(book_of(built(word), things), chance))
                for again in range(2):
                    self.check_drawn(word, things, standing)
                    things = chance.sample(things, len(things))

    def test_many_standings_of_things_that_are_there(self):
        for word in WORDS:
            chance = random.Random(word + "there")
            for turn in range(60):
                things = list("abcdef")[:chance.randint(1, 6)]
                held = {thing: any_thing(word, chance) for thing in things}
                standing = [
                    (one, other, read_off(word, held[one], held[other]))
                    for one, other in itertools.combinations(things, 2)
                ]
                chance.shuffle(things)
                self.check_drawn(word, things, standing)

    def test_all_the_same(self):
        for word in WORDS:
            standing = [(one, other, "same") for one, other in itertools.combinations("abcdef", 2)]
            self.check_drawn(word, list("fabced"), standing)

    def test_long_chains(self):
        for word, kind in (
            ("moments", "ahead"), ("stretches", "before"), ("stretches", "around"), ("stretches", "overlaps"),
            ("courses", "nw"), ("courses", "s"), ("branches", "up"), ("branches", "down"), ("branches", "apart"),
            ("parts", "within"), ("parts", "around"), ("parts", "across"), ("parts", "apart"),
        ):
            standing = [(one, other, kind) for one, other in itertools.combinations("abcdef", 2)]
            self.check_drawn(word, list("cadbfe"), standing)

    def test_by_name(self):
        told = drawn(standing=[("a", "b", "ahead")], things=["a", "b"], word="moments")
        self.assertEqual(told, drawn("moments", ["a", "b"], [("a", "b", "ahead")]))


class Refused(unittest.TestCase):
    def test_no_table(self):
        for word in ("odd", "", "Moments", "moment", "same"):
            for things, standing in (([], []), (["a", "b"], [("a", "b", "ahead")]), (["a", "b"], [])):
                with self.assertRaises(NoTable) as caught:
                    drawn(word, things, standing)
                self.assertEqual(caught.exception.name, word)


class Lists(unittest.TestCase):
    """[2]: lists that are told are new, lists within them too; those handed in stay."""

    def test_told_again(self):
        for word in WORDS:
            standing = [(one, other, "same") for one, other in itertools.combinations("abc", 2)]
            things = list("cab")
            kept = repr(drawn(word, things, standing))
            told = drawn(word, things, standing)
            for thing, held in told:
                if word == "parts":
                    held.clear()
            told.clear()
            self.assertEqual(repr(drawn(word, things, standing)), kept)
            self.assertEqual(things, list("cab"))
            self.assertEqual(standing, [(one, other, "same") for one, other in itertools.combinations("abc", 2)])

    def test_the_same_things_have_lists_of_their_own(self):
        told = drawn("parts", ["a", "b"], [("a", "b", "same")])
        told[0][1].clear()
        self.assertTrue(told[1][1])

    def test_cleared_behind_the_call(self):
        things, standing = ["a", "b"], [("a", "b", "around")]
        told = drawn("parts", things, standing)
        kept = repr(told)
        things.clear()
        standing.clear()
        self.assertEqual(repr(told), kept)


if __name__ == "__main__":
    unittest.main()

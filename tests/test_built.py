"""[6], [7]: the built tables, their steps beside what things themselves show, and how kinds are read off."""

import itertools
import unittest

from kindweft.built import WORDS, built, read_off
from kindweft.errors import NoTable
from kindweft.tables import Table, fault
from tests.making import moments

KINDS = {
    "moments": "ahead same behind",
    "stretches": "before meets overlaps begins within ends same ended around begun overlaid met after",
    "courses": "nw n ne w same e sw s se",
    "branches": "up same down apart",
    "parts": "within around same across apart",
}
BACKS = {
    "moments": "behind same ahead",
    "stretches": "after met overlaid begun around ended same ends within begins overlaps meets before",
    "courses": "se s sw e same w ne n nw",
    "branches": "down same up apart",
    "parts": "around within same across apart",
}
GREAT = 10 ** 30 - 1


def stretch_words(x, y):
    """Each kind of stretches in the words of [6] by itself, the backs by turning about."""
    rules = {
        "before": lambda x, y: x[1] < y[0],
        "meets": lambda x, y: x[1] == y[0],
        "overlaps": lambda x, y: x[0] < y[0] < x[1] < y[1],
        "begins": lambda x, y: x[0] == y[0] and x[1] < y[1],
        "within": lambda x, y: y[0] < x[0] and x[1] < y[1],
        "ends": lambda x, y: x[1] == y[1] and x[0] > y[0],
    }
    turned = dict(zip(rules, ("after", "met", "overlaid", "begun", "around", "ended")))
    told = [word for word in rules if rules[word](x, y)]
    told += [turned[word] for word in rules if rules[word](y, x)]
    told += ["same"] * (x == y)
    return told


def course_words(x, y):
    north = "n" * (x[1] < y[1]) + "s" * (x[1] > y[1])
    west = "w" * (x[0] < y[0]) + "e" * (x[0] > y[0])
    return [north + west or "same"]


def branch_words(x, y):
    above = [y[:size] for size in range(1, len(y))]
    below = [x[:size] for size in range(1, len(x))]
    told = ["up"] * (x in above) + ["down"] * (y in below) + ["same"] * (x == y)
    return told or ["apart"]


def part_words(x, y):
    ones, others = set(x), set(y)
    told = ["within"] * (ones < others) + ["around"] * (ones > others) + ["same"] * (ones == others)
    told += ["apart"] * (not ones & others)
    return told or ["across"]


def moment_words(x, y):
    return ["ahead"] * (x < y) + ["same"] * (x == y) + ["behind"] * (x > y)


def venn_triples():
    """Three sets for each choice of the seven fields of three sets that are not empty."""
    for number in range(1 << 7):
        fields = [field + 1 for field in range(7) if number >> field & 1]
        sets = [[field for field in fields if field >> at & 1] for at in range(3)]
        if all(sets):
            yield tuple(sets)


def triples(word):
    """Enough triples of things to show all that three of them can show, and more."""
    if word == "moments":
        return itertools.product(range(-2, 3), repeat=3)
    if word == "stretches":
        return itertools.product(itertools.combinations(range(7), 2), repeat=3)
    if word == "courses":
        return itertools.product(itertools.product((-1, 0, 1), repeat=2), repeat=3)
    if word == "branches":
        places = [place for size in (1, 2, 3) for place in itertools.product(range(3), repeat=size)]
        return itertools.product(places, repeat=3)
    return venn_triples()


WORDED = {
    "moments": moment_words,
    "stretches": stretch_words,
    "courses": course_words,
    "branches": branch_words,
    "parts": part_words,
}


def shown_steps(word):
    worded = WORDED[word]
    shown = {}
    for x, y, z in triples(word):
        (first,), (second,), (third,) = worded(x, y), worded(y, z), worded(x, z)
        shown.setdefault((first, second), set()).add(third)
    return shown


class BuiltTables(unittest.TestCase):
    def test_words(self):
        self.assertEqual(WORDS, ("moments", "stretches", "courses", "branches", "parts"))
        self.assertIsInstance(WORDS, tuple)

    def test_kinds_same_and_backs(self):
        for word in WORDS:
            table = built(word)
            self.assertIsInstance(table, Table)
            self.assertEqual(table.kinds(), KINDS[word].split())
            self.assertEqual(len(table), len(KINDS[word].split()))
            self.assertEqual(table.same, "same")
            self.assertEqual([table.back(kind) for kind in table.kinds()], BACKS[word].split())

    def test_steps_are_what_things_show(self):
        for word in WORDS:
            table = built(word)
            shown = shown_steps(word)
            for one, other in itertools.product(table.kinds(), repeat=2):
                expected = [kind for kind in KINDS[word].split() if kind in shown[one, other]]
                self.assertEqual(table.step(one, other), expected, (word, one, other))

    def test_some_steps_written_out(self):
        self.assertEqual(built("moments"), Table(*moments()))
        stretches = built("stretches")
        self.assertEqual(stretches.step("before", "after"), KINDS["stretches"].split())
        self.assertEqual(stretches.step("meets", "meets"), ["before"])
        self.assertEqual(stretches.step("overlaps", "overlaps"), ["before", "meets", "overlaps"])
        self.assertEqual(stretches.step("begins", "begun"), ["begins", "same", "begun"])
        self.assertEqual(built("courses").step("nw", "se"), KINDS["courses"].split())
        self.assertEqual(built("courses").step("n", "w"), ["nw"])
        self.assertEqual(built("branches").step("up", "down"), ["up", "same", "down"])
        self.assertEqual(built("branches").step("up", "apart"), ["up", "apart"])
        self.assertEqual(built("branches").step("apart", "apart"), KINDS["branches"].split())
        self.assertEqual(built("parts").step("around", "within"), ["within", "around", "same", "across"])

    def test_lawful(self):
        for word in WORDS:
            table = built(word)
            names = table.kinds()
            steps = [[table.step(one, other) for other in names] for one in names]
            self.assertIsNone(fault(names, table.same, [table.back(name) for name in names], steps))

    def test_two_are_alike_and_unlike_words_are_not(self):
        for one in WORDS:
            for other in WORDS:
                self.assertEqual(built(one) == built(other), one == other)
        self.assertEqual(built(word="parts"), built("parts"))

    def test_told_again_whatever_its_holder_does(self):
        kinds = built("parts").kinds()
        kinds.clear()
        step = built("parts").step("apart", "apart")
        step.clear()
        self.assertEqual(built("parts").kinds(), KINDS["parts"].split())
        self.assertEqual(built("parts").step("apart", "apart"), KINDS["parts"].split())


class ReadOff(unittest.TestCase):
    def check(self, word, one, other, kind):
        kinds, backs = KINDS[word].split(), BACKS[word].split()
        self.assertEqual(read_off(word, one, other), kind)
        self.assertEqual(read_off(word, other, one), backs[kinds.index(kind)])
        self.assertEqual(read_off(word, one, one), "same")
        self.assertEqual(read_off(word, other, other), "same")

    def test_moments(self):
        self.check("moments", 3, 5, "ahead")
        self.check("moments", -5, -3, "ahead")
        self.check("moments", 0, 0, "same")
        self.check("moments", GREAT - 1, GREAT, "ahead")
        self.check("moments", -GREAT, GREAT, "ahead")

    def test_stretches(self):
        for low, unit in ((0, 1), (-7, 1), (GREAT - 9, 1), (-GREAT, GREAT // 9)):
            at = [low + unit * place for place in range(10)]
            y = (at[3], at[6])
            for begin, end, kind in (
                (0, 2, "before"), (0, 3, "meets"), (1, 4, "overlaps"), (3, 5, "begins"), (4, 5, "within"),
                (5, 6, "ends"), (3, 6, "same"), (2, 6, "ended"), (1, 8, "around"), (3, 7, "begun"),
                (5, 9, "overlaid"), (6, 8, "met"), (7, 9, "after"),
            ):
                self.check("stretches", (at[begin], at[end]), y, kind)

    def test_courses(self):
        kinds = KINDS["courses"].split()
        for unit in (1, GREAT):
            for place, kind in enumerate(kinds):
                self.check("courses", (unit * (place % 3 - 1), unit * (place // 3 - 1)), (0, 0), kind)

    def test_branches(self):
        self.check("branches", (1,), (1, 2), "up")
        self.check("branches", (1,), (1, 2, 3, 4), "up")
        self.check("branches", (1, 2), (1, 2, 0), "up")
        self.check("branches", (1, 2, 3), (1, 2), "down")
        self.check("branches", (1, 2), (1, 2), "same")
        self.check("branches", (1, 2), (1, 3), "apart")
        self.check("branches", (1,), (2,), "apart")
        self.check("branches", (1,), (2, 1), "apart")
        self.check("branches", (2, 1), (1, 2, 3), "apart")
        self.check("branches", (GREAT,), (GREAT, -GREAT), "up")

    def test_parts(self):
        self.check("parts", [1], [1, 2], "within")
        self.check("parts", [1, 2, 5], [2], "around")
        self.check("parts", [1, 2], [1, 2], "same")
        self.check("parts", [1, 2], [2, 3], "across")
        self.check("parts", [0], [1], "apart")
        self.check("parts", [1, 3], [2, 4], "apart")
        self.check("parts", [2], [1, 3], "apart")
        self.check("parts", [0, GREAT], [1, GREAT], "across")
        self.check("parts", list(range(400)), list(range(1, 400)), "around")

    def test_each_two_things_have_just_one_kind(self):
        for word in WORDS:
            for x, y, z in itertools.islice(triples(word), 0, None, 3):
                for one, other in ((x, y), (y, z), (z, x)):
                    self.assertEqual([read_off(word, one, other)], WORDED[word](one, other))

    def test_by_name(self):
        self.assertEqual(read_off(other=5, one=3, word="moments"), "ahead")

    def test_things_stay(self):
        one, other = [1, 2], [2, 3]
        read_off("parts", one, other)
        self.assertEqual((one, other), ([1, 2], [2, 3]))


class NoTables(unittest.TestCase):
    def check(self, name, call):
        with self.assertRaises(NoTable) as caught:
            call()
        self.assertEqual(caught.exception.name, name)

    def test_built(self):
        for word in ("odd", "", "Moments", "moments ", "moment", "same"):
            self.check(word, lambda: built(word))

    def test_read_off(self):
        for word in ("odd", "", "Moments", "moments ", "moment", "same"):
            self.check(word, lambda: read_off(word, 1, 2))


if __name__ == "__main__":
    unittest.main()

"""[2], [3]: what a table tells, of kinds and of sets of kinds."""

import itertools
import unittest

from kindweft.errors import NoKind
from kindweft.tables import Table
from tests.making import moments, ring


def one_kind(name="x"):
    return Table([name], name, [name], [[[name]]])


class Told(unittest.TestCase):
    def setUp(self):
        self.table = Table(*moments())

    def test_kinds_and_same(self):
        self.assertEqual(self.table.kinds(), ["ahead", "same", "behind"])
        self.assertEqual(self.table.same, "same")
        self.assertEqual(Table(*ring(3)).same, "kinda")

    def test_back(self):
        self.assertEqual([self.table.back(kind) for kind in self.table.kinds()], ["behind", "same", "ahead"])
        self.assertEqual(self.table.back(kind="ahead"), "behind")

    def test_step(self):
        for one, row in zip(moments()[0], moments()[3]):
            for other, step in zip(moments()[0], row):
                self.assertEqual(self.table.step(one, other), step)
        self.assertEqual(self.table.step(other="same", one="behind"), ["behind"])

    def test_steps(self):
        table = self.table
        every = ["ahead", "same", "behind"]
        self.assertEqual(table.steps(["ahead"], ["ahead"]), ["ahead"])
        self.assertEqual(table.steps(["same", "ahead"], ["ahead", "same"]), ["ahead", "same"])
        self.assertEqual(table.steps(["behind"], ["same", "ahead"]), every)
        self.assertEqual(table.steps(["behind", "behind"], ["same", "same"]), ["behind"])
        self.assertEqual(table.steps(others=["behind"], ones=["same"]), ["behind"])

    def test_steps_of_empty_sets(self):
        for ones, others in (([], []), (["ahead"], []), ([], ["ahead", "same", "behind"])):
            self.assertEqual(self.table.steps(ones, others), [])

    def test_steps_of_all_sets(self):
        names = self.table.kinds()
        sets = [list(some) for size in range(4) for some in itertools.permutations(names, size)]
        for ones in sets:
            for others in sets:
                told = {kind for one in ones for other in others for kind in self.table.step(one, other)}
                self.assertEqual(self.table.steps(ones, others), [name for name in names if name in told])

    def test_backs(self):
        self.assertEqual(self.table.backs(["ahead", "same"]), ["same", "behind"])
        self.assertEqual(self.table.backs(["behind", "same", "behind"]), ["ahead", "same"])
        self.assertEqual(self.table.backs([]), [])
        self.assertEqual(self.table.backs(ones=["same"]), ["same"])

    def test_ordered(self):
        self.assertEqual(self.table.ordered(["behind", "ahead", "behind", "ahead"]), ["ahead", "behind"])
        self.assertEqual(self.table.ordered(["behind", "same", "ahead"]), ["ahead", "same", "behind"])
        self.assertEqual(self.table.ordered([]), [])
        self.assertEqual(self.table.ordered(kinds=["same"]), ["same"])
        self.assertEqual(self.table.ordered(["behind"] * 400), ["behind"])

    def test_made_by_name(self):
        names, same, backs, steps = moments()
        self.assertEqual(Table(steps=steps, backs=backs, same=same, names=names), self.table)

    def test_steps_handed_in_out_of_order_are_told_in_order(self):
        names, same, backs, steps = moments()
        steps[0][2] = ["behind", "same", "ahead", "same"]
        self.assertEqual(Table(names, same, backs, steps).step("ahead", "behind"), names)


class Sizes(unittest.TestCase):
    def test_one_kind(self):
        table = one_kind()
        self.assertEqual((len(table), table.kinds(), table.same, table.back("x")), (1, ["x"], "x", "x"))
        self.assertEqual((table.step("x", "x"), table.steps(["x"], ["x"]), table.backs(["x"])), (["x"],) * 3)

    def test_thirteen_kinds(self):
        names, same, backs, steps = ring(13)
        table = Table(names, same, backs, steps)
        self.assertEqual((len(table), table.kinds(), table.same), (13, names, same))
        self.assertEqual([table.back(name) for name in names], backs)
        self.assertEqual([[table.step(one, other) for other in names] for one in names], steps)
        self.assertEqual(table.steps(names[3:5], names[12:]), names[2:4])
        self.assertEqual(table.backs(names[1:3]), names[11:])
        self.assertEqual(table.ordered(names[::-1]), names)


class NoKinds(unittest.TestCase):
    def check(self, name, call, *told):
        with self.assertRaises(NoKind) as caught:
            call(*told)
        self.assertEqual(caught.exception.name, name)

    def test_one_kind_asked(self):
        table = Table(*moments())
        self.check("odd", table.back, "odd")
        self.check("", table.back, "")
        self.check("Ahead", table.back, "Ahead")
        self.check("odd", table.step, "odd", "same")
        self.check("odd", table.step, "same", "odd")
        self.check("odd", table.step, "odd", "even")

    def test_sets_asked(self):
        table = Table(*moments())
        self.check("odd", table.steps, ["same", "odd", "even"], ["strange"])
        self.check("strange", table.steps, ["same"], ["ahead", "strange", "odd"])
        self.check("odd", table.steps, [], ["odd"])
        self.check("odd", table.steps, ["odd"], [])
        self.check("odd", table.backs, ["behind", "odd", "even"])
        self.check("odd", table.ordered, ["behind", "odd", "ahead", "even"])

    def test_the_table_stays(self):
        table = Table(*moments())
        self.check("odd", table.steps, ["odd"], ["odd"])
        self.assertEqual(table, Table(*moments()))


class Alike(unittest.TestCase):
    def check_unlike(self, one, other):
        self.assertFalse(one == other)
        self.assertTrue(one != other)
        self.assertFalse(other == one)

    def test_alike(self):
        one, other = Table(*moments()), Table(*moments())
        self.assertTrue(one == other)
        self.assertFalse(one != other)
        self.assertTrue(one == one)

    def test_other_names(self):
        self.check_unlike(one_kind("x"), one_kind("y"))
        self.check_unlike(Table(*ring(3)), Table(*ring(4)))

    def test_other_order(self):
        names, same, backs, steps = ring(2)
        turned = Table(names[::-1], same, backs[::-1], [row[::-1] for row in steps[::-1]])
        self.check_unlike(Table(names, same, backs, steps), turned)

    def test_other_same(self):
        # Which kind is same shows in the steps of a lawful table, so steps differ with it.
        one = Table(["a", "b"], "a", ["a", "b"], [[["a"], ["b"]], [["b"], ["a"]]])
        other = Table(["a", "b"], "b", ["a", "b"], [[["b"], ["a"]], [["a"], ["b"]]])
        self.check_unlike(one, other)

    def test_other_backs(self):
        # So do the backs.
        every = ["a", "s", "b"]
        own = Table(every, "s", ["a", "s", "b"], [
            [["s", "a"], ["a"], ["b"]], [["a"], ["s"], ["b"]], [["b"], ["b"], every]])
        other = Table(every, "s", ["b", "s", "a"], [
            [["a"], ["a"], every], [["a"], ["s"], ["b"]], [every, ["b"], ["b"]]])
        self.check_unlike(own, other)

    def test_each_part_alone(self):
        # Lawful tables that differ in same or in backs differ in steps too: here each part is set by itself.
        for name in ("names", "same", "turns", "grid"):
            one, other = Table(*moments()), Table(*moments())
            setattr(other, name, getattr(Table(*ring(3)), name))
            self.check_unlike(one, other)

    def test_other_steps_alone(self):
        names, same, backs = ["s", "a"], "s", ["s", "a"]
        one = Table(names, same, backs, [[["s"], ["a"]], [["a"], ["s"]]])
        other = Table(names, same, backs, [[["s"], ["a"]], [["a"], ["s", "a"]]])
        self.check_unlike(one, other)

    def test_beside_what_is_no_table(self):
        table = one_kind()
        for thing in (str(table), repr(table), ["x"], "x", 1, None, True, (["x"], "x", ["x"], [[["x"]]])):
            self.check_unlike(table, thing)

    def test_to_nothing_else(self):
        class Yes:
            def __eq__(self, other):
                return True

        self.assertFalse(one_kind() == Yes())


class Shown(unittest.TestCase):
    def test_len_and_repr(self):
        self.assertEqual(repr(one_kind()), "Table(1 kinds)")
        self.assertEqual(repr(Table(*moments())), "Table(3 kinds)")
        self.assertEqual(repr(Table(*ring(13))), "Table(13 kinds)")
        self.assertEqual([len(Table(*ring(size))) for size in range(1, 14)], list(range(1, 14)))


class NewLists(unittest.TestCase):
    """[2]: each list that is told is a new one, and nothing that is handed in is kept."""

    def test_told_lists_changed_by_their_holder(self):
        table = Table(*moments())
        askings = [
            lambda: table.kinds(),
            lambda: table.step("ahead", "behind"),
            lambda: table.step("ahead", "ahead"),
            lambda: table.steps(["ahead"], ["behind", "same"]),
            lambda: table.steps([], []),
            lambda: table.backs(["ahead", "same"]),
            lambda: table.ordered(["behind", "ahead"]),
        ]
        for ask in askings:
            told = ask()
            kept = list(told)
            told.reverse()
            told.append("odd")
            self.assertEqual(ask(), kept)
            told.clear()
            self.assertEqual(ask(), kept)
            self.assertIsNot(ask(), ask())
        self.assertEqual(table, Table(*moments()))
        self.assertEqual(str(table), str(Table(*moments())))

    def test_told_lists_are_not_those_handed_in(self):
        table = Table(*moments())
        kinds = ["ahead", "same"]
        for told in (table.ordered(kinds), table.backs(kinds), table.steps(kinds, kinds)):
            told.append("odd")
        self.assertEqual(kinds, ["ahead", "same"])

    def test_asked_sets_stay(self):
        table = Table(*moments())
        ones, others = ["behind", "ahead", "behind"], ["same", "same"]
        table.steps(ones, others)
        table.backs(ones)
        table.ordered(ones)
        self.assertEqual((ones, others), (["behind", "ahead", "behind"], ["same", "same"]))

    def test_parts_changed_behind_the_table(self):
        names, same, backs, steps = moments()
        table = Table(names, same, backs, steps)
        names[0] = "odd"
        backs[0] = "same"
        steps[0][0].append("behind")
        steps[1].pop()
        steps.reverse()
        self.assertEqual(table, Table(*moments()))
        self.assertEqual(table.kinds(), ["ahead", "same", "behind"])
        self.assertEqual(table.back("ahead"), "behind")
        self.assertEqual(table.step("ahead", "ahead"), ["ahead"])
        self.assertEqual(table.step("same", "behind"), ["behind"])

    def test_what_only_asks_changes_nothing(self):
        table = Table(*moments())
        for again in range(2):
            self.assertEqual(table.steps(["behind"], ["ahead"]), ["ahead", "same", "behind"])
            self.assertEqual((len(table), repr(table), table.same), (3, "Table(3 kinds)", "same"))
            self.assertEqual(table, Table(*moments()))


if __name__ == "__main__":
    unittest.main()

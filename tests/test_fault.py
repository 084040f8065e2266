"""[4]: when a table is lawful, and which rule is told with which kinds; [3]: the form of a table."""

import copy
import itertools
import unittest

from kindweft.errors import BadTable, Unlawful
from kindweft.tables import Table, fault
from tests.making import loose, moments, ring


def slow_step(parts, ones, others):
    names, same, backs, steps = parts
    told = set()
    for one in ones:
        for other in others:
            told |= set(steps[names.index(one)][names.index(other)])
    return told


def slow_fault(parts):
    """The rules of [4] once more, as near to their words as can be."""
    names, same, backs, steps = parts
    back = dict(zip(names, backs))
    for a in names:
        if back[back[a]] != a:
            return ("back", a)
    if back[same] != same:
        return ("own", same)
    for a in names:
        if slow_step(parts, [same], [a]) != {a} or slow_step(parts, [a], [same]) != {a}:
            return ("same", a)
    for a, b, c in itertools.product(names, repeat=3):
        told = c in slow_step(parts, [a], [b])
        if told != (a in slow_step(parts, [c], [back[b]])) or told != (b in slow_step(parts, [back[a]], [c])):
            return ("turn", a, b, c)
    for a, b, c in itertools.product(names, repeat=3):
        left = slow_step(parts, slow_step(parts, [a], [b]), [c])
        if left != slow_step(parts, [a], slow_step(parts, [b], [c])):
            return ("row", a, b, c)
    return None


def subsets(names):
    return [
        [name for place, name in enumerate(names) if number >> place & 1]
        for number in range(1 << len(names))
    ]


class Lawful(unittest.TestCase):
    def test_none(self):
        self.assertIsNone(fault(*moments()))

    def test_rings_of_all_sizes(self):
        for size in range(1, 14):
            self.assertIsNone(fault(*ring(size)))

    def test_by_name(self):
        names, same, backs, steps = moments()
        self.assertIsNone(fault(steps=steps, backs=backs, same=same, names=names))

    def test_steps_in_any_order_and_doubled(self):
        names, same, backs, steps = moments()
        steps[0][2] = ["behind", "ahead", "same", "behind", "same"]
        steps[1][1] = ["same", "same"]
        self.assertIsNone(fault(names, same, backs, steps))
        self.assertEqual(Table(names, same, backs, steps), Table(*moments()))


class EachRule(unittest.TestCase):
    def check(self, parts, expected):
        self.assertEqual(fault(*parts), expected)
        self.assertEqual(slow_fault(parts), expected)
        with self.assertRaises(Unlawful) as caught:
            Table(*parts)
        self.assertEqual(caught.exception.rule, expected[0])
        self.assertEqual(caught.exception.names, expected[1:])
        self.assertIsInstance(caught.exception.names, tuple)

    def test_back_at_the_first_kind(self):
        parts = moments()
        parts[2] = ["behind", "same", "same"]
        self.check(parts, ("back", "ahead"))

    def test_back_at_a_later_kind(self):
        parts = moments()
        parts[2] = ["ahead", "same", "ahead"]
        self.check(parts, ("back", "behind"))

    def test_own(self):
        parts = moments()
        parts[2] = ["same", "ahead", "behind"]
        self.check(parts, ("own", "same"))

    def test_same_ahead_of_the_kind(self):
        parts = moments()
        parts[3][1][2] = ["ahead", "behind"]
        self.check(parts, ("same", "behind"))

    def test_same_behind_the_kind(self):
        parts = moments()
        parts[3][0][1] = []
        self.check(parts, ("same", "ahead"))

    def test_same_of_same(self):
        parts = moments()
        parts[3][1][1] = ["same", "behind"]
        self.check(parts, ("same", "same"))

    def test_turn(self):
        parts = moments()
        parts[3][0][0] = ["ahead", "behind"]
        self.check(parts, ("turn", "ahead", "ahead", "behind"))

    def test_turn_where_a_kind_lacks(self):
        parts = moments()
        parts[3][0][2] = ["same", "behind"]
        self.check(parts, ("turn", "ahead", "ahead", "ahead"))

    def test_turn_at_a_late_place(self):
        parts = moments()
        parts[3][2][0] = ["same"]
        self.check(parts, ("turn", "ahead", "ahead", "ahead"))

    def test_turn_by_its_first_half_alone(self):
        self.check(*self.half_turned(0))

    def test_turn_by_its_second_half_alone(self):
        self.check(*self.half_turned(1))

    def half_turned(self, half):
        """A table at whose first broken turn just this half of the rule is broken."""
        names = ["same", "b", "c"]
        backs = ["same", "c", "b"]
        for cells in itertools.product(subsets(names), repeat=2):
            steps = [[["same"], ["b"], ["c"]], [["b"], cells[0], list(names)], [["c"], list(names), cells[1]]]
            parts = [names, "same", backs, steps]
            told = slow_fault(parts)
            if told is not None and told[0] == "turn" and self.broken_halves(parts, told) == [half]:
                return parts, told
        raise AssertionError("no such table")

    def broken_halves(self, parts, told):
        word, a, b, c = told
        back = dict(zip(parts[0], parts[2]))
        whole = c in slow_step(parts, [a], [b])
        halves = [a in slow_step(parts, [c], [back[b]]), b in slow_step(parts, [back[a]], [c])]
        return [at for at in (0, 1) if halves[at] != whole]

    def test_row(self):
        self.check(loose(), ("row", "a", "a", "b"))

    def test_an_empty_step_is_no_other_form(self):
        parts = [["a"], "a", ["a"], [[[]]]]
        self.check(parts, ("same", "a"))

    def test_the_first_rule_goes(self):
        parts = loose()
        parts[3][0][0] = ["a", "b"]
        self.check(parts, slow_fault(parts))
        self.assertEqual(fault(*parts)[0], "turn")
        parts[3][1][2] = ["a"]
        self.check(parts, ("same", "b"))
        parts[2] = ["same", "a", "b"]
        self.check(parts, ("own", "same"))
        parts[2] = ["same", "b", "b"]
        self.check(parts, ("back", "a"))


class AgainstTheSlowRules(unittest.TestCase):
    def test_all_tables_of_two_kinds(self):
        names = ["x", "y"]
        sets = subsets(names)
        lawful = 0
        for same in names:
            for backs in itertools.product(names, repeat=2):
                for cells in itertools.product(sets, repeat=4):
                    parts = [names, same, list(backs), [list(cells[:2]), list(cells[2:])]]
                    told = fault(*parts)
                    self.assertEqual(told, slow_fault(parts))
                    lawful += told is None
        self.assertEqual(lawful, 4)

    def test_three_kinds_beside_same(self):
        names = ["x", "same", "y"]
        sets = subsets(names)
        seen = set()
        for backs in (["x", "same", "y"], ["y", "same", "x"]):
            for cells in itertools.product(sets, repeat=3):
                steps = [[cells[0], ["x"], cells[1]], [["x"], ["same"], ["y"]], [cells[1], ["y"], cells[2]]]
                parts = [names, "same", backs, steps]
                told = fault(*parts)
                self.assertEqual(told, slow_fault(parts))
                seen.add(told)
                if [] in cells:
                    # Where the step of a and b is empty, row fails: b and its back have same in their step.
                    self.assertIsNotNone(told)
        self.assertIn(None, seen)
        self.assertTrue({told[0] for told in seen if told} == {"turn", "row"})


class OtherForms(unittest.TestCase):
    def check(self, parts):
        for call in (fault, Table):
            with self.assertRaises(BadTable) as caught:
                call(*parts)
            self.assertEqual(caught.exception.row, -1)

    def with_part(self, at, value):
        parts = moments()
        parts[at] = value
        self.check(parts)

    def test_no_kinds(self):
        self.check([[], "same", [], []])

    def test_fourteen_kinds(self):
        self.check(ring(14))

    def test_names_that_are_none(self):
        for word in ("", "ninechars", "Ahead", "a b", "a1", "a-b", "a\n", " a", "h\u00e4", 3, None, True, b"a",
                     ["a"], ("a",), {}):
            self.check([[word], word, [word], [[[word]]]])
            parts = ring(3)
            parts[0][2] = word
            self.check(parts)

    def test_longest_and_shortest_names(self):
        for word in ("a", "z", "eightabc"):
            self.assertIsNone(fault([word], word, [word], [[[word]]]))

    def test_a_name_twice(self):
        parts = ring(3)
        parts[0][2] = parts[0][1]
        self.check(parts)
        self.check([["a", "a"], "a", ["a", "a"], [[["a"], ["a"]], [["a"], ["a"]]]])

    def test_same_that_is_no_kind(self):
        for word in ("odd", "", 1, None, True, ["same"], ("same",), {}, b"same"):
            self.with_part(1, word)

    def test_too_few_or_too_many_backs(self):
        self.with_part(2, ["behind", "same"])
        self.with_part(2, ["behind", "same", "ahead", "same"])
        self.with_part(2, [])

    def test_strange_backs(self):
        for word in ("odd", "", 1, None, ["ahead"], ("ahead",), b"ahead"):
            self.with_part(2, ["behind", "same", word])

    def test_too_few_or_too_many_rows_of_steps(self):
        rows = moments()[3]
        self.with_part(3, rows[:2])
        self.with_part(3, rows + [rows[0]])
        self.with_part(3, [])

    def test_too_few_or_too_many_steps_in_a_row(self):
        for at in range(3):
            rows = moments()[3]
            rows[at].pop()
            self.with_part(3, rows)
            rows = moments()[3]
            rows[at].append(["same"])
            self.with_part(3, rows)

    def test_strange_names_in_steps(self):
        for word in ("odd", "", 1, None, ["ahead"], ("ahead",), b"ahead"):
            for at in range(3):
                rows = moments()[3]
                rows[2][at].append(word)
                self.with_part(3, rows)

    def test_another_thing_where_a_list_should_stand(self):
        for at in (0, 2, 3):
            told = moments()[at]
            for value in (tuple(told), "ahead", "", None, 3, dict(enumerate(told)), dict.fromkeys("abc")):
                self.with_part(at, value)

    def test_another_thing_for_a_row_of_steps(self):
        for value in (tuple(moments()[3][1]), "abc", None, 3, {0: ["ahead"], 1: ["same"], 2: ["behind"]}):
            rows = moments()[3]
            rows[1] = value
            self.with_part(3, rows)

    def test_another_thing_for_a_step(self):
        for value in (("same",), "same", "", None, 3, {"same": True}, {"same"}):
            rows = moments()[3]
            rows[1][1] = value
            self.with_part(3, rows)

    def test_a_text_of_one_letter_kinds_is_no_list(self):
        self.check(["a", "a", ["a"], [[["a"]]]])
        self.check([["a"], "a", "a", [[["a"]]]])
        self.check([["a"], "a", ["a"], ["a"]])
        self.check([["a"], "a", ["a"], [["a"]]])

    def test_other_form_ahead_of_unlawful(self):
        parts = moments()
        parts[2] = ["same", "ahead", "behind"]
        parts[3][2][2] = ["odd"]
        self.check(parts)


class Untouched(unittest.TestCase):
    """[2]: what is handed in stays as it was, also where it is refused."""

    def test_handed_in(self):
        broken = moments()
        broken[3][1][1] = ["behind", "same", "behind"]
        for parts in (moments(), loose(), broken, ring(14)):
            kept = copy.deepcopy(parts)
            for call in (fault, Table):
                try:
                    call(*parts)
                except (BadTable, Unlawful):
                    pass
                self.assertEqual(parts, kept)

    def test_asked_again(self):
        parts = loose()
        self.assertEqual(fault(*parts), fault(*parts))
        self.assertIsInstance(fault(*parts), tuple)


if __name__ == "__main__":
    unittest.main()

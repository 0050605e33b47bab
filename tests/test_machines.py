"""Points 6 and 8, the text of a machine (35), and what machines are made of."""

import itertools
import unittest

from anypads.machines import Machine
from anypads.parts import Byte, Kind, Record, Use
from tests.values import ANY, GREAT, raised_by, same

A, B, C = Kind("a"), Kind("b", 3), Kind("c")


def on(*pairs):
    kinds = [A, B, C][:len(pairs)]
    return Machine(kinds, {kind.name: pair for kind, pair in zip(kinds, pairs)})


def refused(exponents):
    return raised_by(Machine, [A, B], exponents)


def small(most):
    return [(s, a) for s in range(most + 1) for a in range(s + 1)]


class Made(unittest.TestCase):
    def test_attributes(self):
        machine = on((3, 1), (0, 0), (1000, 1000))
        self.assertEqual(machine.kinds, (A, B, C))
        self.assertEqual(machine.scales, ("size a", "align a", "size b", "align b", "size c", "align c"))
        self.assertEqual([machine[scale] for scale in machine.scales], [3, 1, 0, 0, 1000, 1000])
        self.assertEqual(machine["byte"], 0)
        self.assertEqual([type(machine.kinds), type(machine.scales)], [tuple, tuple])
        self.assertEqual(Machine(kinds=(A,), exponents={"a": (2, 2)}), on((2, 2)))
        self.assertEqual(Machine.MOST, 1000)

    def test_the_order_of_keys_means_nothing(self):
        one = Machine([A, B], {"b": (2, 1), "a": (5, 4)})
        self.assertEqual([one, one["size a"]], [on((5, 4), (2, 1)), 5])

    def test_numbers_of_kinds(self):
        four = [A, B, C, Kind("d")]
        for kinds in ([], (), four, tuple(four), None, "a", {"a": A}, A, 1):
            self.assertEqual(raised_by(Machine, kinds, {"a": (0, 0)}), ("BadParts", None))
        for many in (1, 2, 3):
            self.assertEqual(len(Machine(four[:many], {kind.name: (0, 0) for kind in four[:many]}).kinds), many)

    def test_what_is_no_kind(self):
        for at, value in itertools.product(range(3), [value for value in ANY if not isinstance(value, Kind)]):
            kinds = [A, B, C]
            kinds[at] = value
            self.assertEqual(raised_by(Machine, kinds, {}), ("BadParts", at))
            self.assertEqual(raised_by(Machine, [value] * 3, {}), ("BadParts", 0))
        self.assertEqual(raised_by(Machine, [A, A, Use("a")], {}), ("BadParts", 2))

    def test_names_twice(self):
        self.assertEqual(raised_by(Machine, [A, A], {}), ("Taken", "a"))
        self.assertEqual(raised_by(Machine, [A, B, Kind("a", 2)], {"a": 1}), ("Taken", "a"))
        self.assertEqual(raised_by(Machine, [A, B, B], None), ("Taken", "b"))

    def test_exponents_that_are_no_such_dict(self):
        pair = (0, 0)
        wrong = [
            None, [], [("a", pair), ("b", pair)], "ab", {}, {"a": pair}, {"a": pair, "c": pair}, 3,
            {"a": pair, "b": pair, "c": pair}, {"a": pair, "B": pair}, {"a": pair, ("b",): pair}, {"a": pair, None: 1},
        ]
        for exponents in wrong:
            self.assertEqual(refused(exponents), ("NoMachine", None))

    def test_sizes(self):
        for value in ANY + [[1, 1], (1,), (1, 1, 1), ("1", "1"), {0: 1, 1: 1}, (True, 0), (None, 0), (-1, -1), (1001, 0)]:
            self.assertEqual(refused({"a": value, "b": (0, 0)}), ("NoMachine", "size a"))
            self.assertEqual(refused({"a": (0, 0), "b": value}), ("NoMachine", "size b"))
        for value in ANY:
            whole = type(value) is int and 0 <= value <= 1000
            self.assertEqual(refused({"a": (0, 0), "b": (value, 0)}), None if whole else ("NoMachine", "size b"))

    def test_aligns(self):
        for value in ANY:
            whole = type(value) is int and 0 <= value <= 8
            self.assertEqual(refused({"a": (8, value), "b": (0, 0)}), None if whole else ("NoMachine", "align a"))
        for size, align in ((0, 1), (5, 6), (5, -1), (1000, 1001), (5, GREAT), (5, True)):
            self.assertEqual(refused({"a": (1, 1), "b": (size, align)}), ("NoMachine", "align b"))
        self.assertEqual(refused({"a": (5, 5), "b": (1000, 1000)}), None)

    def test_the_first_wrong_scale_is_told(self):
        cases = [
            ((1001, -1), (1001, -1), "size a"), ((1, 2), (1001, 0), "align a"), ((1, 1), (-1, 5), "size b"),
            ((1, 1), (4, 5), "align b"), ([], None, "size a"), ((0, True), None, "align a"), ((0, 0), None, "size b"),
        ]
        for one, other, scale in cases:
            self.assertEqual(refused({"b": other, "a": one}), ("NoMachine", scale))

    def test_errors_come_in_their_order(self):
        self.assertEqual(raised_by(Machine, [], None), ("BadParts", None))
        self.assertEqual(raised_by(Machine, [A, A, 1], None), ("BadParts", 2))
        self.assertEqual(raised_by(Machine, [A, A], None), ("Taken", "a"))
        self.assertEqual(raised_by(Machine, [A, B], {"a": (0, 1)}), ("NoMachine", None))

    def test_what_is_passed_may_change_afterwards(self):
        kinds, exponents = [A, B], {"a": (2, 1), "b": (1, 0)}
        machine = Machine(kinds, exponents)
        kinds[0] = exponents["a"] = None
        exponents["z"] = 1
        self.assertEqual([machine, str(machine)], [on((2, 1), (1, 0)), "a 2 1, b 1 0"])
        again = {"a": (2, 1), "b": [1]}
        raised_by(Machine, [A, B], again)
        self.assertEqual(again, {"a": (2, 1), "b": [1]})

    def test_is_machine(self):
        self.assertIs(Machine.is_machine([A], {"a": (2, 2)}), True)
        self.assertIs(Machine.is_machine(kinds=(A, B), exponents={"a": (0, 0), "b": (1000, 0)}), True)
        self.assertIs(on((1, 1)).is_machine([A], {"a": (2, 3)}), False)
        for kinds, exponents in (([], {}), ([A, A], {"a": (0, 0)}), ([A, 1], {}), ([A], {}), ([A], {"a": (1001, 0)})):
            self.assertIs(Machine.is_machine(kinds, exponents), False)
        for value in ANY:
            self.assertIs(Machine.is_machine(value, {"a": (0, 0)}), False)
            self.assertIs(Machine.is_machine([value], {"any": (0, 0)}), isinstance(value, Kind))
            fits = isinstance(value, dict) and same(value, {"a": (1, 1)})
            self.assertIs(Machine.is_machine([A], value), fits)


class Scales(unittest.TestCase):
    def test_any_value_as_a_scale(self):
        machine = on((3, 1), (2, 2))
        texts = ["size c", "align c", "a", "size", "size  a", "sizea", " size a", "size a ", "Byte", "", "place a", "size byte"]
        for value in [value for value in ANY if not same(value, "byte")] + texts:
            self.assertEqual(raised_by(lambda: machine[value]), ("NoScale", value))
            self.assertEqual(raised_by(machine.raised, value, 0), ("NoScale", value))
        self.assertEqual(raised_by(machine.raised, "byte", 0), ("NoScale", "byte"))
        self.assertEqual(machine["byte"], 0)

    def test_texts(self):
        self.assertEqual(str(on((1, 0))), "a 1 0")
        self.assertEqual(str(on((1, 0), (1000, 999), (0, 0))), "a 1 0, b 1000 999, c 0 0")


class Ordered(unittest.TestCase):
    def test_by_the_greatest_exponent_then_by_all(self):
        machines = [on(one, other) for one in small(2) for other in small(2)]

        def key(machine):
            numbers = tuple(machine[scale] for scale in machine.scales)
            return max(numbers), numbers

        for one, other in itertools.product(machines, machines):
            self.assertIs(one < other, key(one) < key(other))
            self.assertIs(one <= other, key(one) <= key(other))
            self.assertIs(one > other, key(one) > key(other))
            self.assertIs(one >= other, key(one) >= key(other))
            self.assertIs(one == other, key(one) == key(other))
            self.assertIs(one != other, key(one) != key(other))

    def test_by_hand(self):
        self.assertTrue(on((2, 2), (2, 2)) < on((0, 0), (3, 0)))
        self.assertTrue(on((1, 0), (3, 3)) < on((1, 1), (3, 0)))
        self.assertTrue(on((1, 1), (3, 0)) < on((3, 0), (0, 0)))

    def test_other_kinds(self):
        one = on((1, 1), (1, 1))
        others = [
            on((1, 1)),
            Machine([B, A], {"a": (1, 1), "b": (1, 1)}),
            Machine([A, Kind("b", 2)], {"a": (1, 1), "b": (1, 1)}),
            Machine([A, C], {"a": (1, 1), "c": (1, 1)}),
            on((1, 1), (1, 1), (1, 1)),
        ]
        for other in others:
            self.assertIs(one == other, False)
            self.assertIs(other != one, True)
            calls = [
                lambda: one < other, lambda: one <= other, lambda: one > other, lambda: one >= other,
                lambda: one & other, lambda: one | other, lambda: other & one, lambda: other < one,
            ]
            for call in calls:
                self.assertEqual(raised_by(call), ("NoScale", None))

    def test_nothing_else_is_equal(self):
        machine = on((1, 1))
        for value in ANY + ["a 1 1", {"a": (1, 1)}, (1, 1)]:
            self.assertIs(machine == value, False)
            self.assertIs(value != machine, True)


class Changed(unittest.TestCase):
    def test_lesser_and_greater(self):
        one, other = on((5, 1), (2, 2), (7, 0)), on((3, 3), (4, 0), (7, 7))
        self.assertEqual(str(one & other), "a 3 1, b 2 0, c 7 0")
        self.assertEqual(str(one | other), "a 5 3, b 4 2, c 7 7")
        self.assertEqual([str(one), str(other)], ["a 5 1, b 2 2, c 7 0", "a 3 3, b 4 0, c 7 7"])

    def test_lesser_and_greater_of_all_small_ones(self):
        machines = [on(pair) for pair in small(4)]
        for one, other in itertools.product(machines, machines):
            for scale in one.scales:
                self.assertEqual((one & other)[scale], min(one[scale], other[scale]))
                self.assertEqual((one | other)[scale], max(one[scale], other[scale]))

    def test_all_exponents_greater(self):
        machine = on((5, 1), (2, 0))
        self.assertEqual([str(machine << 0), str(machine << 3)], ["a 5 1, b 2 0", "a 8 4, b 5 3"])
        self.assertEqual(str(machine << 995), "a 1000 996, b 997 995")
        self.assertEqual(raised_by(lambda: machine << 996), ("NoMachine", "size a"))
        self.assertEqual(raised_by(lambda: on((2, 1), (5, 5)) << 996), ("NoMachine", "size b"))
        self.assertEqual(raised_by(lambda: machine << GREAT), ("NoMachine", "size a"))

    def test_all_exponents_less(self):
        machine = on((5, 3), (4, 2))
        self.assertEqual([str(machine >> 0), str(machine >> 2)], ["a 5 3, b 4 2", "a 3 1, b 2 0"])
        self.assertEqual(raised_by(lambda: machine >> 3), ("NoMachine", "align b"))
        self.assertEqual(raised_by(lambda: machine >> 4), ("NoMachine", "align a"))
        self.assertEqual(raised_by(lambda: machine >> 6), ("NoMachine", "size a"))
        self.assertEqual(raised_by(lambda: on((5, 5), (2, 2)) >> 3), ("NoMachine", "size b"))
        self.assertEqual(raised_by(lambda: machine >> GREAT), ("NoMachine", "size a"))

    def test_raised(self):
        machine = on((5, 3), (4, 2))
        self.assertEqual(str(machine.raised("size b", 7)), "a 5 3, b 11 2")
        self.assertEqual(str(machine.raised("align a", 2)), "a 5 5, b 4 2")
        self.assertEqual(machine.raised(scale="align b", n=0), machine)
        self.assertEqual(str(machine.raised("size a", 995)), "a 1000 3, b 4 2")
        self.assertEqual(raised_by(machine.raised, "size a", 996), ("NoMachine", "size a"))
        self.assertEqual(raised_by(machine.raised, "align a", 3), ("NoMachine", "align a"))
        self.assertEqual(raised_by(machine.raised, "align b", GREAT), ("NoMachine", "align b"))
        self.assertEqual(raised_by(machine.raised, "size c", GREAT), ("NoScale", "size c"))
        self.assertEqual(str(machine), "a 5 3, b 4 2")


class Near(unittest.TestCase):
    def test_by_hand(self):
        machine = on((9, 2), (1000, 9), (14, 3))
        self.assertEqual(str(machine.near(1)), "a 3 1, b 5 3, c 4 2")
        self.assertEqual(str(machine.near(2)), "a 5 2, b 9 5, c 7 3")
        self.assertEqual(str(machine.near(5)), "a 8 2, b 18 8, c 13 3")
        self.assertEqual(str(machine.near(6)), "a 9 2, b 20 9, c 14 3")
        self.assertEqual(str(machine.near(985)), "a 9 2, b 999 9, c 14 3")
        for r in (986, 1000, GREAT):
            self.assertEqual(machine.near(r), machine)

    def test_the_byte_counts(self):
        self.assertEqual(str(on((7, 7)).near(3)), "a 3 3")
        self.assertEqual(str(on((7, 0)).near(r=3)), "a 3 0")
        self.assertEqual(str(on((0, 0)).near(1)), "a 0 0")

    def test_all_small_machines(self):
        for one, other, r in itertools.product(small(5), small(5), (1, 2, 3)):
            machine = on(one, other)
            near = machine.near(r)
            names = ("byte",) + machine.scales
            for i, j in itertools.product(names, names):
                self.assertIs(machine[i] < machine[j], near[i] < near[j])
            old = sorted({machine[name] for name in names})
            new = sorted({near[name] for name in names})
            self.assertEqual([y - x for x, y in zip(new, new[1:])], [min(y - x, r) for x, y in zip(old, old[1:])])


class Unlisted(unittest.TestCase):
    def test_machines_are_compared_and_joined_with_machines_alone(self):
        machine = on((1, 1))
        for other in (1, None, "a", Kind("a")):
            calls = [
                lambda: machine < other, lambda: machine <= other, lambda: machine > other, lambda: machine >= other,
                lambda: machine & other, lambda: machine | other,
            ]
            for call in calls:
                self.assertRaises(TypeError, call)

    def test_machines_are_not_iterated_over(self):
        with self.assertRaises(TypeError):
            list(on((1, 1)))

    def test_a_machine_is_no_part(self):
        self.assertEqual(raised_by(Record, [("a", Byte()), ("b", on((1, 1)))]), ("BadParts", 1))


if __name__ == "__main__":
    unittest.main()

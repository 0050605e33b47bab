"""Point 16: forms."""

import unittest

from anypads.forms import Form
from anypads.machines import Machine
from anypads.parts import Kind
from tests.values import ANY, GREAT, is_whole, raised_by, same

SCALES = ["byte", "size int", "align int", "size a", "align abcdefgh", "size zzzzzzzz"]
NO_SCALES = [
    "", "size", "align", "size ", " size int", "size  int", "size int ", "Size int", "int", "size Int", "size byte", "size a1",
    "size abcdefghi", "align size", "align leaf", "byte ", "bytes", "place int", "size int align int", "size int.x",
]
SOME = Form({"size int": 3, "byte": 5, "align int": 0})


class Made(unittest.TestCase):
    def test_scales(self):
        for scale in SCALES:
            self.assertEqual(Form({scale: 7})[scale], 7)
            self.assertEqual(Form.of(scale), Form({scale: 1}))
            self.assertEqual(Form.of(scale, 7), Form({scale: 7}))
        for scale in NO_SCALES:
            self.assertEqual(raised_by(Form, {scale: 7}), ("NoScale", scale))
            self.assertEqual(raised_by(Form.of, scale), ("NoScale", scale))
            self.assertEqual(raised_by(lambda: SOME[scale]), ("NoScale", scale))

    def test_any_value(self):
        for value in ANY:
            fine = isinstance(value, str) and value in ("byte", "size any")
            self.assertEqual(raised_by(Form.of, value), None if fine else ("NoScale", value))
            self.assertEqual(raised_by(lambda: SOME[value]), None if fine else ("NoScale", value))
            expected = None if is_whole(value, 0, GREAT) else ("BadBound", value)
            for call in (lambda: Form({"size int": value}), lambda: Form.of("byte", value)):
                self.assertTrue(same(raised_by(call), expected))
        for key in (None, True, 1, (), ("byte",), "x"):
            self.assertTrue(same(raised_by(Form, {key: 1}), ("NoScale", key)))

    def test_keys_are_looked_at_first(self):
        self.assertEqual(raised_by(Form, {"byte": -1, "x": 1}), ("NoScale", "x"))
        self.assertEqual(raised_by(Form, {"byte": 1, "size int": True, "": None}), ("NoScale", ""))
        self.assertEqual(raised_by(Form, {"byte": 1, "size int": True}), ("BadBound", True))
        self.assertEqual(raised_by(Form.of, "x", -1), ("NoScale", "x"))
        self.assertIn(raised_by(Form, {"byte": None, "size int": -1}), [("BadBound", None), ("BadBound", -1)])

    def test_by_name(self):
        self.assertEqual(Form(numbers={"byte": 2}), Form.of(scale="byte", number=2))

    def test_what_is_passed_may_change_afterwards(self):
        numbers = {"byte": 2}
        form = Form(numbers)
        numbers["byte"] = 3
        numbers["size int"] = 1
        self.assertEqual([form["byte"], form["size int"], form.scales], [2, 0, ("byte",)])


class Read(unittest.TestCase):
    def test_numbers(self):
        self.assertEqual([SOME[scale] for scale in ("byte", "size int", "align int", "size long")], [5, 3, 0, 0])

    def test_scales_with_a_number(self):
        self.assertEqual(SOME.scales, ("byte", "size int"))
        self.assertEqual(Form({"size b": 1, "byte": 1, "align c": 1, "size a": 1, "size c": 0}).scales, ("align c", "byte", "size a", "size b"))
        self.assertEqual([Form({}).scales, Form({"byte": 0}).scales], [(), ()])

    def test_truth(self):
        self.assertEqual([bool(SOME), bool(Form({})), bool(Form.of("size int", 0))], [True, False, False])

    def test_sum_of_the_numbers(self):
        self.assertEqual([abs(SOME), abs(Form({})), abs(Form.of("byte", GREAT) + SOME)], [8, 0, GREAT + 8])

    def test_texts(self):
        self.assertEqual(str(SOME), "5*byte + 3*size int")
        self.assertEqual(str(Form({"size int": 2, "align int": 1, "byte": 0})), "1*align int + 2*size int")
        self.assertEqual([str(Form({})), str(Form.of("byte", 0))], ["0", "0"])

    def test_equal(self):
        self.assertEqual(SOME, Form({"byte": 5, "size int": 3, "size long": 0}))
        self.assertNotEqual(SOME, Form({"byte": 5, "size int": 4}))
        self.assertNotEqual(SOME, Form({"byte": 5}))
        for value in ANY:
            if not isinstance(value, Form):
                self.assertIs(Form({}) == value, False)


class Reckoned(unittest.TestCase):
    def test_sums(self):
        self.assertEqual(SOME + Form({"byte": 1, "align int": 2}), Form({"byte": 6, "size int": 3, "align int": 2}))
        self.assertEqual(SOME + Form({}), SOME)
        self.assertEqual((SOME + Form.of("align a")).scales, ("align a", "byte", "size int"))

    def test_multiples(self):
        for n in (0, 1, 2, 64, 65, GREAT):
            expected = Form({"byte": 5 * n, "size int": 3 * n})
            self.assertEqual(n * SOME, expected)
            self.assertEqual(SOME * n, expected)
            self.assertEqual((n * SOME).scales, ("byte", "size int") if n else ())
        for n in (-1, -GREAT):
            self.assertEqual(raised_by(lambda: n * SOME), ("BadBound", n))
            self.assertEqual(raised_by(lambda: SOME * n), ("BadBound", n))

    def test_forms_stay_as_they_are(self):
        form = Form({"byte": 1})
        form + SOME
        3 * form
        self.assertEqual(form, Form.of("byte"))

    def test_values(self):
        machine = Machine([Kind("int"), Kind("a", 3)], {"int": (3, 1), "a": (10, 0)})
        form = Form({"byte": 5, "size int": 3, "align int": 7, "size a": 1, "align a": 2})
        self.assertEqual(form(machine), 5 + 3 * 8 + 7 * 2 + 1024 + 2)
        self.assertEqual(form(machine=machine), form(machine))
        self.assertEqual([Form({})(machine), Form.of("size a", 0)(machine)], [0, 0])
        far = Machine([Kind("int")], {"int": (1000, 0)})
        self.assertEqual(SOME(far), 5 + 3 * 2 ** 1000)

    def test_scales_that_a_machine_lacks(self):
        machine = Machine([Kind("int")], {"int": (3, 1)})
        self.assertEqual(raised_by(Form({"size b": 1, "size a": 1, "byte": 2, "size int": 1}), machine), ("NoScale", "size a"))
        self.assertEqual(raised_by(Form({"size b": 1, "align c": 1}), machine), ("NoScale", "align c"))
        self.assertEqual(Form({"size b": 0, "byte": 2})(machine), 2)


if __name__ == "__main__":
    unittest.main()

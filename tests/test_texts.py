"""Points 35 and 36: what is written and read, and where reading ends."""

import random
import unittest

from anypads.claims import Claim, at_most, least_order, less, no, no_gap, no_tail, same, stands_in, yes
from anypads.desk import Desk
from anypads.machines import Machine
from anypads.parts import Byte, Kind, Overlay, Record, Row, Use
from anypads.terms import Term, align, end, number, packed, place, size
from anypads.texts import read_claim, read_machine, read_part, read_term, read_tree, tree_text
from anypads.trees import LEAF, ask
from anypads.verdicts import decide
from tests import trying
from tests.drawn import drawn_book, drawn_claim, drawn_part, drawn_term
from tests.values import ANY, raised_by

INT, LONG = Kind("int"), Kind("long", 3)
KINDS = [INT, LONG]
READERS = [
    lambda value: read_part(value, KINDS), lambda value: read_machine(value, KINDS), lambda value: Machine.read(value, KINDS),
    lambda value: read_tree(value, KINDS), read_term, read_claim,
]


class Read(unittest.TestCase):
    def look(self, call, value, expected):
        self.assertEqual(raised_by(call, value), None if expected is None else ("BadText", expected), value)

    def parts(self, *rows, kinds=KINDS):
        for value, expected in rows:
            self.look(lambda each: read_part(each, kinds), value, expected)

    def claims(self, *rows):
        for value, expected in rows:
            self.look(read_claim, value, expected)

    def terms(self, *rows):
        for value, expected in rows:
            self.look(read_term, value, expected)

    def test_the_document(self):
        part = read_part("{x:2*byte y:(a:int|b:@other)}", KINDS)
        self.assertEqual([str(part), len(part)], ["{x:2*byte y:(a:int|b:@other)}", 2])
        self.assertEqual(str(read_term("size p + 2*(align int) + 0")), "size p + 2*(align int) + 0")
        self.assertEqual(str(read_claim("not (size p <= 4)")), "not (size p <= 4)")
        self.parts(("{x:2*byte y:65*byte}", 13), ("{end:byte}", 4), ("5*5*5*5*5*byte", 8), ("{x:byte x:byte}", 9))
        self.look(lambda value: read_machine(value, KINDS), "int 2 3, long 4 4", 6)

    def test_values(self):
        view = Overlay([("a", INT), ("b", Use("other"))])
        for value, expected in [
            ("byte", Byte()), ("int", INT), ("long", LONG), ("@long", Use("long")), ("@abcdefgh", Use("abcdefgh")), ("64*1*int", Row(Row(INT, 1), 64)),
            ("{x:2*byte y:(a:int|b:@other)}", Record([("x", Byte() * 2), ("y", view)])), ("(a:int|b:@other)", view),
        ]:
            self.assertEqual(read_part(text=value, kinds=KINDS), expected)
        for value, expected in [
            ("0", number(0)), ("1000", number(1000)), ("size p", size("p")), ("packed q", packed("q")), ("place p a.0.b", place("p", "a.0.b")),
            ("end p 100", end("p", "100")), ("64*(align p + 1*(7))", 64 * (align("p") + 1 * number(7))), ("1 + 2 + 3", number(1) + number(2) + number(3)),
        ]:
            self.assertEqual(read_term(text=value), expected)
            self.assertIs(type(read_term(value)), Term)
        for value, expected in [
            ("yes", yes()), ("no", no()), ("notail p", no_tail("p")), ("nogap p a.1", no_gap("p", "a.1")), ("p for q", stands_in("p", "q")),
            ("leastorder p", least_order("p")), ("leastord for p", stands_in("leastord", "p")), ("nota for noga", stands_in("nota", "noga")),
            ("size p + 1 <= 2*(3)", at_most(size("p") + number(1), 2 * number(3))), ("1 < 2 + 3", less(number(1), number(2) + number(3))),
            ("(yes) and (not (no))", yes() & ~no()), ("((yes) or (no)) or (1 = 2)", yes() | no() | same(number(1), number(2))),
        ]:
            self.assertEqual(read_claim(text=value), expected)
            self.assertIs(type(read_claim(value)), Claim)
        self.assertEqual(read_machine(text="int 10 2, long 0 0", kinds=KINDS), Machine(KINDS, {"int": (10, 2), "long": (0, 0)}))
        self.assertEqual(Machine.read(text="int 1000 1000", kinds=(INT,)), Machine([INT], {"int": (1000, 1000)}))
        self.assertIsInstance(vars(Machine)["read"], classmethod)
        tree = ask("size int", "align long", -2000, LEAF, ask("byte", "size int", 0, LEAF, LEAF))
        self.assertEqual(read_tree("[size int - align long <= -2000 ? leaf : [byte - size int <= 0 ? leaf : leaf]]", KINDS), tree)
        self.assertEqual([read_tree(text="leaf", kinds=KINDS), tree_text(tree=LEAF)], [LEAF, "leaf"])
        self.assertEqual(tree_text(tree), "[size int - align long <= -2000 ? leaf : [byte - size int <= 0 ? leaf : leaf]]")

    def test_any_values(self):
        for value in ANY:
            for call in READERS:
                if not isinstance(value, str):
                    self.assertEqual(raised_by(call, value), ("BadText", 0))
        self.assertEqual([raised_by(call, "") for call in READERS], [("BadText", 0)] * 6)

    def test_names(self):
        self.parts(("{abcdefghi:byte}", 9), ("{abcdefgh:byte}", None), ("{Ab:byte}", 1), ("{aB:byte}", 2), ("{:byte}", 1), ("@", 1), ("@a.b", 2))
        for word in trying.BARRED:
            self.parts((f"{{{word}:int}}", 1 + len(word)), (f"{{{word}a:int}}", None), (f"@{word}", 1 + len(word)), (f"@{word} ", 1 + len(word)))
            self.terms((f"size {word}", 5 + len(word)), (f"size {word}a", None), (f"place p {word}.a", 8 + len(word)))
            self.claims((f"p for {word}", 6 + len(word)), (f"{word}a for p", None))

    def test_kinds(self):
        self.parts(("in", 2), ("i", 1), ("intx", 3), ("x", 0), ("byt", 3), ("bytes", 4), ("2*in", 4), ("2*in ", 4), ("{x:ink}", 5))
        kinds = [Kind("a"), Kind("ab"), Kind("by")]
        self.parts(("a", None), ("ab", None), ("by", None), ("byte", None), ("abc", 2), ("byt", 3), ("{x:a y:ab}", None), ("{x:ac}", 4), kinds=kinds)
        self.assertEqual(read_part("{x:a y:ab z:by w:byte}", kinds), Record(list(zip("xyzw", [Kind("a"), Kind("ab"), Kind("by"), Byte()]))))

    def test_a_name_twice(self):
        self.parts(
            ("{x:byte x:byte}", 9), ("{x:byte xa:byte}", None), ("(a:int|b:int|a:int)", 14), ("{abcdefgh:int abcdefgh:int}", 21),
            ("{abcdefgh:int abcdefgi:int}", None), ("{x:{x:int} y:(x:int)}", None), ("{x:byte x", 9), ("{abcdefgh:int abcdefg:int}", None),
        )

    def test_numbers_of_parts(self):
        eight = " ".join(f"{letter}:int" for letter in "abcdefgh")
        self.parts(("{" + eight + "}", None), ("{" + eight + " i:int}", 1 + len(eight)), ("(a:int|b:int|c:int|d:int)", None))
        self.parts(("(a:int|b:int|c:int|d:int|e:int)", 24), ("{}", 1), ("()", 1), ("{a:int b:int|c:int}", 12), ("(a:int b:int)", 6), ("{a:int }", 7))

    def test_depth(self):
        self.parts(("4*3*2*1*byte", None), ("{a:(b:{c:2*int})}", None), ("{a:(b:{c:2*{d:int}})}", 11), ("{a:(b:{c:2*(", 11), ("{a:(b:{c:2*3", 11))
        self.parts(("1*1*1*1*@p", None), ("1*1*1*1*1", 8), ("1*1*1*1*", 8))

    def test_rows(self):
        self.parts(("64*int", None), ("65*int", 1), ("0*int", 0), ("01*int", 0), ("1*int", None), ("7*", 2), ("7", 1), ("640*int", 2), ("6 *int", 1), ("-1*int", 0))

    def test_machines(self):
        for value, expected in [
            ("int 2 2, long 4 4", None), ("int 2 2, long 4 5", 16), ("int 2 2,long 4 4", 8), ("int 1000 1000, long 0 0", None), ("int 1001 0, long 0 0", 7),
            ("int 1000 1001, long 0 0", 12), ("int 12 13, long 0 0", 8), ("int 12 2, long 0 0", None), ("int 02 0, long 0 0", 5), ("int 0 1, long 0 0", 6),
            ("int 2 2", 7), ("int 2 2, ", 9), ("int 2 2, int 2 2", 9), ("long 2 2, int 2 2", 0), ("int 2  2, long 4 4", 6), ("int 2 2, long 4 4 ", 17),
            ("int 20 3, long 0 0", None), ("int 20 30, long 0 0", 8), ("int 20 21, long 0 0", 8), ("int -1 0, long 0 0", 4),
        ]:
            for call in (lambda each: read_machine(each, KINDS), lambda each: Machine.read(each, KINDS)):
                self.look(call, value, expected)

    def test_trees(self):
        for value, expected in [
            ("leaf", None), ("lea", 3), ("leave", 3), ("[size int - size int <= 0 ? leaf : leaf]", 17), ("[byte - byte <= 0 ? leaf : leaf]", 8),
            ("[byte - align int <= 2000 ? leaf : leaf]", None), ("[byte - align int <= 2001 ? leaf : leaf]", 24), ("[byte - align int <= -2000 ? leaf : leaf]", None),
            ("[byte - align int <= -0 ? leaf : leaf]", 22), ("[byte - align int <= 00 ? leaf : leaf]", 22), ("[byte - align x <= 0 ? leaf : leaf]", 14),
            ("[byte - align int <= 0 ? leaf: leaf]", 29), ("[byte - align int < 0 ? leaf : leaf]", 19), ("[byte - align int <= 0 ? leaf : leaf] ", 37),
            ("[byte - align int <= 0 ? leaf : leaf", 36), ("[byte- align int <= 0 ? leaf : leaf]", 5), ("[byte - align int <= --1", 22), ("[byte - align int <= - ", 22),
        ]:
            self.look(lambda each: read_tree(each, KINDS), value, expected)
        self.look(lambda each: read_tree(each, [Kind("a"), Kind("ab")]), "[size a - size ab <= 0 ? leaf : leaf]", None)
        self.look(lambda each: read_tree(each, [INT]), "[byte - b", 8)

    def test_depth_of_trees(self):
        head = "[size int - byte <= 1 ? "
        for depth, expected in ((100, None), (101, 100 * len(head))):
            self.look(lambda each: read_tree(each, KINDS), head * depth + "leaf" + " : leaf]" * depth, expected)
        tail = "[size int - byte <= 1 ? leaf : "
        for depth, expected in ((100, None), (101, 100 * len(tail))):
            self.look(lambda each: read_tree(each, KINDS), tail * depth + "leaf" + "]" * depth, expected)

    def test_terms(self):
        self.terms(
            ("1001", 3), ("1000", None), ("00", 1), ("01", 1), ("-1", 0), ("64*(1)", None), ("65*(1)", 2), ("0*(1)", 1), ("1000*(1)", 4), ("7*1", 2),
            ("7*(1", 4), ("7*()", 3), ("1 + ", 4), ("1 +", 3), ("1+1", 1), ("1 - 1", 2), ("size p +  1", 9), ("size", 4), ("sizes", 4), ("size p x", 7),
            ("place p", 7), ("place p ", 8), ("place p x.", 10), ("place p .x", 8), ("place p 00", 9), ("place p 0.1.x.22", None), ("place p x..y", 10),
            ("end p 0x", 7), ("end p x0", 7), ("end p 1x", 7), ("place p abcdefghi", 16), ("packed p + place p x + 3", None), ("1 <= 2", 2), ("pack p", 4),
        )
        for depth, expected in ((100, None), (101, 201 + 100)):
            value = "1*(" * depth + "5" + ")" * depth
            self.terms((value, expected))

    def test_claims(self):
        self.claims(
            ("ye", 2), ("yess", 4), ("yes ", 3), ("no ", 2), ("non", 3), ("non for x", None), ("not", 3), ("not ", 4), ("not yes", 4), ("not (yes", 8), ("not (yes) ", 9),
            ("(yes)", 5), ("(yes) ", 6), ("(yes) and", 9), ("(yes) nor (no)", 6), ("(yes) and no", 10), ("(yes) and (no)", None), ("(yes) and (no) and (yes)", 14),
            ("(yes)and (no)", 5), ("yes and no", 3), ("1", 1), ("1 ", 2), ("1 +", 3), ("1 <", 3), ("1 <= ", 5), ("1 <= 2", None), ("1 =< 2", 3), ("1 == 2", 3), ("1 <=2", 4),
            ("1 > 2", 2), ("1 <= 2 + ", 9), ("1 <= 2 < 3", 7), ("nogap p", 7), ("nogap p x.0", None), ("nogap p 00", 9), ("notail p x", 8), ("leastorder", 10),
            ("leastorder p", None), ("leastorde for p", 9), ("leastorders", 10), ("leastord for p", None), ("p for", 5), ("p for for", 9), ("p fo q", 4), ("for for q", 3),
            ("abcdefghi for p", 8), ("size for p", 8), ("size fora < 1", None), ("byte", 4), ("byte for p", 4), ("leaf for x", 4), ("", 0), (" yes", 0), ("Yes", 0),
        )

    def test_brackets(self):
        self.claims(("not (" * 100 + "yes" + ")" * 100, None), ("not (" * 101 + "yes" + ")" * 101, 503))
        left = "(" * 100 + "yes" + ") and (no)" * 100
        self.claims((left, None), ("(" + left + ") and (no)", 100), ("(" * 99 + "not (1 < 1)" + ") and (no)" * 99, None))
        self.claims(("(" * 99 + "1*(2) < 1" + ") or (no)" * 99, None), ("(" * 100 + "1*(2) < 1", 101), ("(" * 100 + "5 < 64*(2)", 106))
        self.claims(("(" * 100 + "not (yes)", 103), ("(" * 100 + "nota for q", 110), ("(" * 99 + "1 < 1*(1*(", 107))


class Written(unittest.TestCase):
    """What is written is read again as an equal value, and has just its text."""

    def test_parts(self):
        rng = random.Random(351)
        for _ in range(200):
            part = drawn_part(rng, KINDS, 3)
            self.assertEqual(read_part(str(part), KINDS), part)
            self.assertEqual(str(read_part(str(part), KINDS)), str(part))

    def test_terms_claims_machines_and_trees(self):
        rng = random.Random(352)
        for _ in range(60):
            book = drawn_book(rng, KINDS, 1, 1)
            term, claim = drawn_term(rng, book), drawn_claim(rng, book, 4)
            self.assertEqual([read_term(str(term)), read_claim(str(claim))], [term, claim])
            self.assertEqual([str(read_term(str(term))), str(read_claim(str(claim)))], [str(term), str(claim)])
            verdict = decide(book, claim)
            self.assertEqual(read_tree(tree_text(verdict.tree), KINDS), verdict.tree)
            if verdict.machine:
                self.assertEqual(read_machine(str(verdict.machine), KINDS), verdict.machine)


SIGNS = "abcxyz 0123456789{}()[]:*@|.,<=+-?!" + "\\\"ABZ"
WORDS = ["size ", "align ", " and (", ") or (", "not (", "byte", "leaf", " <= ", " + ", ", ", "1000", "65", "2001", "-", "00", "leastorder", " : ", "  "]


def spoiled(rng, value):
    """The text with a change at one place."""
    at = rng.randint(0, len(value))
    kind = rng.randint(0, 6)
    if kind == 0:
        return value[:at]
    if kind == 1:
        return value[:at] + value[at + 1:]
    if kind == 2:
        return value[:at] + rng.choice(SIGNS) + value[at:]
    if kind == 3:
        return value[:at] + rng.choice(SIGNS) + value[at + 1:]
    if kind == 4:
        return value[:at] + rng.choice(WORDS) + value[at:]
    if kind == 5:
        return value + rng.choice(list(SIGNS) + WORDS)
    other = rng.randint(0, len(value))
    return value[:at] + value[min(at, other):max(at, other)] + value[at:]


class Tried(unittest.TestCase):
    """BadText tells the longest beginning that can still be led to a text that is read."""

    def look(self, rng, call, start, value, times):
        self.assertEqual(trying.longest(start, value), (len(value), True), value)
        refused = 0
        for _ in range(times):
            bad = spoiled(rng, value)
            at, ended = trying.longest(start, bad)
            self.assertEqual(raised_by(call, bad), None if ended else ("BadText", at), bad)
            refused += not ended
        return refused

    def test_drawn_texts(self):
        rng = random.Random(36)
        refused = 0
        for _ in range(70):
            book = drawn_book(rng, KINDS, 2, 1)
            part = rng.choice([book["p"], book["r"], drawn_part(rng, KINDS, 4), Overlay([("w", book["p"]), ("z", Use("q"))])])
            verdict = decide(book, drawn_claim(rng, book, 1))
            machine = verdict.machine or Machine(KINDS, {"int": (rng.randint(0, 1000), 0), "long": (12, rng.randint(0, 12))})
            for call, start, value in [
                (lambda each: read_part(each, KINDS), trying.part(KINDS), str(part)),
                (lambda each: read_machine(each, KINDS), trying.machine(KINDS), str(machine)),
                (lambda each: read_tree(each, KINDS), trying.tree(KINDS), tree_text(verdict.tree)[:400]),
                (read_term, trying.term(), str(drawn_term(rng, book) + 3 * drawn_term(rng, book))),
                (read_claim, trying.claim(), str(drawn_claim(rng, book, 3))),
            ]:
                state = (("way", lambda: start),)
                if trying.longest(state, value)[1]:
                    refused += self.look(rng, call, state, value, 12)
        self.assertGreater(refused, 2500)

    def test_names_that_are_alike(self):
        rng = random.Random(361)
        kinds = [Kind("a"), Kind("ab"), Kind("by")]
        for value in ["{abcdefgh:a abcdefgi:ab}", "{a:by ab:byte b:ab}", "(x:3*a|xx:@byter|y:a)", "{aa:1*{b:2*ab a:by} b:byte}"]:
            state = (("way", lambda: trying.part(kinds)),)
            self.look(rng, lambda each: read_part(each, kinds), state, value, 150)

    def test_lines(self):
        rng = random.Random(362)
        lines = [
            "kinds int 1 long 3 x 8", "set pq {x:byte y:2*int}", "drop pq", "fact size pq = 4", "show pq", "names", "facts", "at int 2 2, long 12 3 : place pq y",
            "ask (yes) and (pq for pr)", "why not (nogap pq y)", "span 3*(size pq) + 4", "sure align pq", "least", "orders pq", "undo", "kinds intintin 8",
        ]
        for kinds in (None, KINDS):
            for value in lines:
                state = (("way", lambda: trying.line(kinds)),)
                whole = trying.longest(state, value)
                for each in [value, value + " ", value.replace(" ", "  ")] + [spoiled(rng, value) for _ in range(60)]:
                    at, ended = trying.longest(state, each)
                    desk = Desk()
                    if kinds is not None:
                        desk.say("kinds int 1 long 3")
                    told = raised_by(desk.say, each)
                    if ended:
                        self.assertTrue(told is None or told[0] != "BadText", each)
                    else:
                        self.assertEqual(told, ("BadText", at), each)
                self.assertEqual(whole[1], kinds is not None or value.startswith(("kinds", "undo")))


if __name__ == "__main__":
    unittest.main()

"""Point 37: the desk."""

import random
import unittest

from anypads.books import Book
from anypads.claims import holds, same, yes
from anypads.desk import Desk
from anypads.errors import PadError
from anypads.machines import Machine
from anypads.orders import fewest_orders
from anypads.parts import Byte, Kind, Record, Use
from anypads.regions import region, span, sure
from anypads.terms import number, size, value
from anypads.texts import read_claim, read_machine, read_part, read_term, read_tree, tree_text
from anypads.verdicts import decide
from tests.drawn import drawn_claim, drawn_part, drawn_term
from tests.values import ANY, raised_by

INT, LONG = Kind("int"), Kind("long", 3)


def begun():
    desk = Desk()
    desk.run("kinds int 1 long 3", "set p {x:byte y:int}", "fact size int = align int")
    return desk


class Lines(unittest.TestCase):
    def test_the_document(self):
        desk = Desk()
        answers = desk.run("kinds int 1", "set p {x:byte y:int}", "fact size int = align int", "ask size p = 2*(size int)", "at int 2 2 : place p y", "span size p")
        self.assertEqual(answers, ["ok", "ok", "ok", "always", "4", "2 to endless"])
        answers = [desk.say("undo"), desk.say("ask size p = 2*(size int)"), desk.say("least"), len(desk)]
        self.assertEqual(answers, ["ok", "breaks int 1 0", "int 0 0", 2])
        self.assertEqual(raised_by(desk.say, "ask size p = "), ("BadText", 13))

    def test_answers(self):
        desk = begun()
        for line, answer in [
            ("names", "p"), ("facts", "size int = align int"), ("show p", "{x:byte y:int}"), ("show int", "int"), ("show long", "long"),
            ("set q {a:@p b:2*long}", "ok"), ("names", "p q"), ("show q", "{a:@p b:2*long}"), ("fact size long <= 6", "ok"),
            ("facts", "size int = align int ; size long <= 6"), ("at int 1 1, long 1 0 : size q", "16"), ("at int 2 0, long 9 0 : size p + 1", "6"),
            ("ask size p = 2*(size int)", "always"), ("ask size int <= 8", "breaks int 4 4, long 0 0"), ("span 2*(size long) + 1", "7 to 13"),
            ("span size p", "2 to endless"), ("sure place q a.y", "-"), ("sure place q a.x", "0"), ("least", "int 0 0, long 0 0"), ("orders p", "x,y"),
            ("drop q", "ok"), ("names", "p"), ("undo", "ok"), ("names", "p q"), ("undo", "ok"), ("facts", "size int = align int"),
        ]:
            self.assertEqual(desk.say(line), answer, line)

    def test_nothing_to_list(self):
        desk = Desk()
        desk("kinds a 8")
        self.assertEqual(desk.run("names", "facts", "show a", "least", "why yes"), ["-", "-", "a", "a 0 0", "leaf"])

    def test_why(self):
        desk = begun()
        text = desk.say("why size p = 4")
        self.assertEqual(read_tree(text, [INT, LONG]), decide(desk.book(), same(size("p"), number(4))).tree)
        self.assertEqual(desk.say("why size int <= size int"), "[size int - align int <= 0 ? leaf : leaf]")

    def test_orders(self):
        desk = Desk()
        desk.run("kinds a 1 b 1 c 1", "fact size a = align a", "fact size b = align b", "fact size c = align c", "set r {x:a y:b z:c}", "set u @r")
        self.assertEqual(desk.run("orders r", "orders u"), ["x,y,z / x,z,y"] * 2)

    def test_facts_need_not_hold_on_a_machine_that_is_told(self):
        self.assertEqual(begun().say("at int 3 1, long 0 0 : place p y"), "2")

    def test_calling(self):
        desk = Desk()
        self.assertEqual([desk("kinds int 1"), desk(line="names"), desk.say(line="names"), desk.run()], ["ok", "-", "-", []])

    def test_kinds(self):
        desk = begun()
        self.assertEqual(desk.run("kinds a 1 b 2 c 8", "names", "facts", "least"), ["ok", "-", "-", "a 0 0, b 0 0, c 0 0"])
        self.assertEqual(desk.book().kinds, (Kind("a"), Kind("b", 2), Kind("c", 8)))
        self.assertEqual(len(desk), 4)
        for line, at in [
            ("kinds", 5), ("kinds ", 6), ("kinds a", 7), ("kinds a 0", 8), ("kinds a 9", 8), ("kinds a 10", 9), ("kinds a 1 a 1", 11), ("kinds a 1 b", 11),
            ("kinds a 1 b 1 c 1 d 1", 17), ("kinds byte 1", 10), ("kinds a 1 ", 10), ("kinds abcdefgh 1 abcdefgh 1", 24), ("kinds a  1", 8), ("kinds abcdefghi 1", 14),
        ]:
            self.assertEqual(raised_by(desk.say, line), ("BadText", at), line)


class Refused(unittest.TestCase):
    def test_no_line(self):
        for each in (Desk(), begun()):
            for thing in ANY:
                if not isinstance(thing, str):
                    self.assertEqual(raised_by(each.say, thing), ("NoLine",))
                    self.assertEqual(raised_by(each, thing), ("NoLine",))
                    self.assertEqual(raised_by(each.run, "undo", thing), ("NoLine",))

    def test_lines_without_a_book(self):
        desk = Desk()
        for line, at in [
            ("names", 0), ("set p byte", 0), ("ask yes", 0), ("", 0), ("k", 1), ("kinds", 5), ("kind int 1", 4), ("und", 3), ("undos", 4), ("undo ", 4), (" undo", 0),
            ("Undo", 0), ("least", 0), ("show p", 0), ("u", 1),
        ]:
            self.assertEqual(raised_by(desk.say, line), ("BadText", at), line)
        self.assertEqual(raised_by(desk.book), ("NoLine",))
        self.assertEqual((desk.say("undo"), len(desk)), ("nothing", 0))

    def test_texts(self):
        desk = begun()
        for line, at in [
            ("", 0), ("x", 0), ("name", 4), ("namesx", 5), ("names ", 5), ("facts x", 5), ("factx", 4), ("fact  yes", 5), ("fact yes ", 8), ("least int", 5),
            ("set  p byte", 4), ("set p  byte", 6), ("set p", 5), ("set p byte ", 10), ("set p {x:int", 12), ("set byte byte", 8), ("set p short", 6), ("drop", 4),
            ("drop p q", 6), ("show p.x", 6), ("at int 2 3", 9), ("at int 2 2", 10), ("at int 2 2, long 0 0 :", 22), ("at int 2 2, long 0 0: 1", 20), ("at long 0 0", 3),
            ("at int 2 2, long 0 0 : 1 <= 2", 25), ("ask size p", 10), ("ask size p = ", 13), ("asks", 3), ("why", 3), ("span", 4), ("span yes", 5), ("sure 1001", 8),
            ("orders", 6), ("orders ", 7), ("s", 1), ("se", 2), ("su", 2), ("sp", 2), ("sx", 1), ("undo 1", 4), ("ask (yes)", 9), ("k", 1), ("kinds int", 9),
        ]:
            self.assertEqual(raised_by(desk.say, line), ("BadText", at), line)

    def test_errors_of_the_functions(self):
        desk = begun()
        desk.run("set q {a:@p}", "set five {a:int b:int c:int d:int e:int}")
        before = (desk.book(), len(desk))
        for line, expected in [
            ("set int byte", ("Taken", "int")), ("set p @z", ("NoName", "z")), ("set p @p", ("Ring", ("p",))), ("set p {b:@q}", ("Ring", ("p", "q"))),
            ("set p 2*2*2*2*byte", ("TooLarge", "depth", 4)), ("drop z", ("NoName", "z")), ("drop int", ("NoName", "int")), ("drop p", ("InUse", "q")),
            ("fact no", ("Barred",)), ("fact size z = 1", ("NoName", "z")), ("fact nogap p z", ("NoPath", "z", 0)), ("fact notail int", ("NotRecord", "int")),
            ("fact size int < align int", ("Barred",)), ("fact 64*(64*(64*(4))) = 1", ("TooLarge", "units", 1000000)), ("show z", ("NoName", "z")),
            ("at int 0 0, long 0 0 : packed long", ("NotRecord", "long")), ("ask z for p", ("NoName", "z")), ("why leastorder z", ("NoName", "z")),
            ("span place p z", ("NoPath", "z", 0)), ("sure size z", ("NoName", "z")), ("orders int", ("NotRecord", "int")), ("orders z", ("NotRecord", "z")),
            ("orders five", ("TooLarge", "fields", 4)),
        ]:
            self.assertEqual(raised_by(desk.say, line), expected, line)
            self.assertEqual((desk.book(), len(desk)), before)


class Undone(unittest.TestCase):
    def test_one_by_one(self):
        desk = begun()
        self.assertEqual(len(desk), 3)
        self.assertEqual([desk.say("undo"), desk.say("facts"), len(desk)], ["ok", "-", 2])
        self.assertEqual([desk.say("undo"), desk.say("names"), len(desk)], ["ok", "-", 1])
        self.assertEqual([desk.say("undo"), len(desk), desk.say("undo"), len(desk)], ["ok", 0, "nothing", 0])
        self.assertEqual(raised_by(desk.say, "names"), ("BadText", 0))
        self.assertEqual(raised_by(desk.book), ("NoLine",))

    def test_a_second_kinds(self):
        desk = begun()
        desk.run("kinds a 2", "set p a")
        self.assertEqual(desk.run("undo", "undo", "names", "facts", "show p"), ["ok", "ok", "p", "size int = align int", "{x:byte y:int}"])
        self.assertEqual(len(desk), 3)

    def test_the_order_of_names_comes_back(self):
        desk = begun()
        desk.run("set q byte", "set r int", "drop p", "set p int")
        self.assertEqual(desk.run("names", "undo", "undo", "names"), ["q r p", "ok", "ok", "p q r"])

    def test_what_changes_nothing_is_not_taken_back(self):
        desk = begun()
        desk.run("names", "ask yes", "least", "show p")
        self.assertEqual(len(desk), 3)
        self.assertIsNotNone(raised_by(desk.say, "fact no"))
        self.assertEqual(desk.run("undo", "facts"), ["ok", "-"])


class Run(unittest.TestCase):
    def test_a_line_that_raises(self):
        lines = ["set q @p", "fact size q <= 8", "drop z", "undo", "undo"]
        for at in range(5):
            desk = begun()
            moved = [line for line in lines if line != "drop z"]
            moved.insert(at, "drop z")
            before = (desk.book(), len(desk))
            self.assertEqual(raised_by(desk.run, *moved), ("NoName", "z"))
            self.assertEqual((desk.book(), len(desk)), before)

    def test_undo_is_taken_back_too(self):
        desk = begun()
        self.assertEqual(raised_by(desk.run, "undo", "undo", "undo", "names"), ("BadText", 0))
        self.assertEqual((len(desk), desk.run("names", "facts")), (3, ["p", "size int = align int"]))
        self.assertEqual(raised_by(desk.run, "kinds a 1", "set p a", "undo", "undo", "undo", None), ("NoLine",))
        self.assertEqual((len(desk), desk.run("undo", "facts", "names")), (3, ["ok", "-", "p"]))
        fresh = Desk()
        self.assertEqual(raised_by(fresh.run, "kinds a 1", "set p a", "fact no"), ("Barred",))
        self.assertEqual((len(fresh), raised_by(fresh.book)), (0, ("NoLine",)))


class Books(unittest.TestCase):
    def test_a_twin(self):
        desk = begun()
        book = desk.book()
        self.assertIs(type(book), Book)
        book.drop("p")
        book.set_facts([])
        self.assertEqual(desk.run("names", "facts"), ["p", "size int = align int"])
        other = desk.book()
        desk.say("set q byte")
        self.assertEqual((other.names, desk.book().names), (("p",), ("p", "q")))
        self.assertFalse(desk.book() is desk.book())

    def test_a_desk_and_a_book_alike(self):
        rng = random.Random(37)
        words = {}
        for _ in range(12):
            desk, books = Desk(), [None]
            for _ in range(60):
                self.step(rng, desk, books, words)
                self.assertEqual(len(desk), len(books) - 1)
                if books[-1] is not None:
                    self.assertTrue(desk.book() == books[-1])
        for word in ("kinds", "set", "drop", "fact", "undo", "show", "ask", "span", "sure", "at", "least", "orders", "names", "facts", "why"):
            self.assertGreater(words.get((word, True), 0), 3, word)
        for word in ("set", "drop", "fact", "show", "orders"):
            self.assertGreater(words.get((word, False), 0), 1, word)

    def step(self, rng, desk, books, words):
        if books[-1] is None or rng.random() < 0.02:
            line = rng.choice(["kinds int 1 long 3", "kinds int 2", "undo", "kinds long 1 a 1 int 1"])
        else:
            line = self.line(rng, books[-1])
        if rng.random() < 0.2:
            # The row of lines comes to nothing.
            held, many = books[-1], len(desk)
            self.assertIsNotNone(raised_by(desk.run, line, "undo", "oops"))
            self.assertEqual(len(desk), many)
            self.assertTrue(held is None or desk.book() == held)
        expected = self.expected(line, books)
        word = line.split(" ")[0]
        if isinstance(expected, PadError):
            self.assertRaises(type(expected), desk.say, line)
        else:
            self.assertEqual(desk.say(line), expected, line)
        key = (word, not isinstance(expected, PadError))
        words[key] = words.get(key, 0) + 1

    def line(self, rng, book):
        names = list(book.names) + ["p", "q", "r"]
        name = rng.choice(names)
        word = rng.choice(["set"] * 6 + ["drop", "fact", "fact", "undo", "show", "ask", "why", "span", "sure", "at", "least", "orders", "names", "facts"])
        if word == "set":
            fields = [("w", drawn_part(rng, book.kinds, 1)), ("x", drawn_part(rng, book.kinds, 0)), ("y", rng.choice([Byte(), Use(rng.choice(names))]))]
            return f"set {name} {Record(fields[rng.randint(0, 1):])}"
        if word in ("drop", "show", "orders"):
            return f"{word} {name}"
        if word in ("names", "facts", "least", "undo"):
            return word
        full = book.twin()
        full.facts = []
        full["p"], full["q"], full["r"] = Record([("x", Byte())]), Record([("y", full.kinds[0])]), Byte()
        if word in ("fact", "ask", "why"):
            return f"{word} {drawn_claim(rng, full, 1)}"
        machine = Machine(book.kinds, {kind.name: (rng.randint(1, 3), rng.randint(0, 1)) for kind in book.kinds})
        return f"{word} {machine} : {drawn_term(rng, full)}" if word == "at" else f"{word} {drawn_term(rng, full)}"

    def expected(self, line, books):
        """The answer, worked out with books alone, or the error."""
        word, _, rest = line.partition(" ")
        book = books[-1]
        if word == "undo":
            return "nothing" if len(books) == 1 else [books.pop(), "ok"][1]
        if word == "kinds":
            told = rest.split(" ")
            books.append(Book(*[Kind(name, int(many)) for name, many in zip(told[0::2], told[1::2])]))
            return "ok"
        try:
            if word in ("set", "drop", "fact"):
                fresh = book.twin()
                if word == "set":
                    name, _, part = rest.partition(" ")
                    fresh[name] = read_part(part, book.kinds)
                elif word == "drop":
                    fresh.drop(rest)
                else:
                    fresh += read_claim(rest)
                books.append(fresh)
                return "ok"
            if word == "show":
                return str(book[rest])
            if word in ("names", "facts"):
                return (" " if word == "names" else " ; ").join(map(str, getattr(book, word))) or "-"
            if word == "least":
                machine = region(book, yes()).least()
                self.assertTrue(all(holds(book, fact, machine) for fact in book.facts))
                return str(machine)
            if word in ("ask", "why"):
                verdict = decide(book, read_claim(rest))
                return repr(verdict) if word == "ask" else tree_text(verdict.tree)
            if word == "orders":
                fields = [name for name, _ in book.resolved(rest).fields] if rest in book and isinstance(book.resolved(rest), Record) else None
                return " / ".join(",".join(fields[at] for at in order) for order in fewest_orders(book, rest)[0])
            if word == "at":
                machine, _, term = rest.partition(" : ")
                return str(value(book, read_term(term), read_machine(machine, book.kinds)))
            if word == "sure":
                worth = sure(book, read_term(rest))
                return "-" if worth is None else str(worth)
            told_span = span(book, read_term(rest))
            return f"{told_span.low} to {'endless' if told_span.high is None else told_span.high}"
        except PadError as error:
            return error


if __name__ == "__main__":
    unittest.main()

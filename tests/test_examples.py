"""The examples of the document."""

import unittest

from anypads.errors import PadError


class Parts(unittest.TestCase):
    def test_parts(self):
        from anypads.parts import Byte, Kind, Overlay, Record, Row, Use, units
        number = Kind("int")
        pair = Record([("tag", Byte()), ("count", number)])
        both = pair + Record([("rest", Byte() * 3)])
        self.assertEqual(
            [len(both), list(both.paths()), both["rest.2"] == Byte(), "rest.3" in both, units(both)],
            [3, ['tag', 'count', 'rest'], True, False, 8],
        )
        view = Overlay([("raw", Row(Byte(), 4)), ("both", pair)])
        self.assertEqual(
            [list(view.paths()), units(view), [kind.name for kind in view.kinds_in()], view.depth],
            [['raw', 'both', 'both.tag', 'both.count'], 5, ['int'], 2],
        )
        with self.assertRaises(PadError) as caught:
            pair["count.x"]
        self.assertEqual(repr(caught.exception), "NoPath('count.x', 1)")
        with self.assertRaises(PadError) as caught:
            Record([("a", Byte()), ("a", number)])
        self.assertEqual(repr(caught.exception), "BadParts(1)")
        self.assertEqual(str(Use("p")), "@p")

    def test_machines(self):
        from anypads.machines import Machine
        from anypads.parts import Byte, Kind, Record
        number = Kind("int")
        long = Kind("long")
        machine = Machine([number, long], {"int": (2, 2), "long": (3, 2)})
        r = Record([("tag", Byte()), ("count", number), ("total", long), ("rest", Byte() * 3)])
        self.assertEqual(
            [machine.size(r), machine.align(r), machine.place(r, "total"), machine.end(r, "rest"), machine.place(r, "rest.1")],
            [20, 4, 8, 19, 17],
        )
        wide = machine.raised("align long", 1)
        self.assertEqual(
            [wide.size(r), machine < wide, machine & wide == machine, machine.near(1)["size long"]], [24, True, True, 2],
        )
        self.assertEqual(wide.place(r, "total"), 8)
        from anypads.images import image, number_at, patched
        shown = image(machine, r, {"tag": 7, "count": 258, "total": 1, "rest": [1, 2, 3]})
        self.assertEqual(
            [shown, number_at(machine, r, shown, "count"), patched(machine, r, shown, "rest.2", 9)[16:]],
            [[7, 0, 0, 0, 2, 1, 0, 0, 1, 0, 0, 0, 0, 0, 0, 0, 1, 2, 3, 0], 258, [1, 2, 9, 0]],
        )
        with self.assertRaises(PadError) as caught:
            Machine([number], {"int": (1, 2)})
        self.assertEqual(repr(caught.exception), "NoMachine('align int')")

    def test_zones(self):
        from anypads.parts import Kind
        from anypads.zones import Zone
        zone = Zone(Kind("int"), Kind("long")).within("size int", "size long", 0).within("size long", "byte", 3)
        self.assertEqual(
            [zone["size int", "byte"], zone["align int", "size long"], zone["byte", "align int"], zone["size long", "align long"]],
            [3, 0, 0, 3],
        )
        self.assertEqual(
            zone.within("align int", "align long", -1).least(),
            {'size int': 0, 'align int': 0, 'size long': 1, 'align long': 1},
        )
        none = zone.within("byte", "align int", -4)
        ring = [("byte", "align int", -4), ("align int", "size int", 0), ("size int", "size long", 0), ("size long", "byte", 3)]
        self.assertEqual([bool(none), none.is_ring(ring)], [False, True])
        self.assertEqual([tuple(point.values()) for point in Zone(Kind("int")).walk(1)], [(0, 0), (1, 0), (1, 1)])
        self.assertEqual(
            str(Zone(Kind("int")).within("size int", "byte", 2)),
            'byte - size int <= 0, byte - align int <= 0, size int - byte <= 2, size int - align int <= 2, '
            'align int - byte <= 2, align int - size int <= 0',
        )
        with self.assertRaises(PadError) as caught:
            zone["size int", "size short"]
        self.assertEqual(repr(caught.exception), "NoScale('size short')")

    def test_settle(self):
        from anypads.parts import Byte, Kind, Record
        from anypads.settle import place_form
        from anypads.zones import Zone
        long = Kind("long")
        zone = Zone.of([long]).within("byte", "align long", -1)
        part = Record([("tag", Byte()), ("more", Byte()), ("value", long)])
        self.assertEqual([str(place_form(zone, part, "value")), place_form(Zone.of([long]), part, "value")], ['1*align long', None])

    def test_claims_and_looker(self):
        from anypads.books import Book
        from anypads.claims import at_most, less, no_gap, plain, reach, same, stands_in, told
        from anypads.machines import Machine
        from anypads.parts import Kind, Record
        from anypads.terms import align, number, place, size, units_of, value
        from anypads.zones import Zone
        i, d = Kind("i"), Kind("d")
        pads = Book(i, d)
        pads["p"] = Record([("x", i), ("y", d)])
        pads["q"] = Record([("x", i), ("z", i), ("y", d)])
        one = same(place("p", "y"), place("q", "y"))
        machine = Machine([i, d], {"i": (2, 2), "d": (3, 3)})
        self.assertEqual(
            [units_of(pads, place("q", "y")), reach(pads, one), value(pads, 2 * size("p") + number(1), machine)], [6, 3, 33],
        )
        zone = Zone(i, d).within("size i", "align d", -1)
        claims = [one, at_most(place("p", "y"), size("i")), no_gap("p", "y"), stands_in("q", "p")]
        self.assertEqual(
            [[told(pads, claim, where) for claim in claims] for where in (zone, Zone(i, d))],
            [[True, False, False, True], [None, None, None, None]],
        )
        self.assertIs(plain(pads, stands_in("q", "p")) == same(place("q", "x"), place("p", "x")) & one, False)
        self.assertIs(told(pads, less(size("i"), align("d")), zone), True)
        from anypads.looker import shows_always, shows_least, shows_nothing
        LEAF = ("leaf",)
        tree = ("ask", "size i", "align d", -1, LEAF, LEAF)
        given = [less(size("i"), align("d"))]
        self.assertEqual(
            [shows_always(pads, one, tree, given), shows_always(pads, one, tree), shows_always(pads, one, LEAF, given)], [True, False, False],
        )
        first = Machine([i, d], {"i": (0, 0), "d": (0, 0)})
        self.assertEqual([shows_least(pads, one, first, LEAF), shows_nothing(pads, LEAF, [less(size("d"), align("d"))])], [True, True])

    def test_books(self):
        from anypads.books import Book
        from anypads.parts import Byte, Kind, Record, Use
        book = Book(Kind("int"), Kind("long"))
        book["p"] = Record([("x", Byte()), ("y", Kind("int"))])
        book["q"] = Record([("head", Use("p")), ("last", Kind("long"))])
        self.assertEqual(
            [book.names, len(book), "int" in book, str(book["q"]), str(book.resolved("q"))],
            [('p', 'q'), 2, True, '{head:@p last:long}', '{head:{x:byte y:int} last:long}'],
        )
        with self.assertRaises(PadError) as caught:
            book["p"] = Record([("again", Use("q"))])
        self.assertEqual(repr(caught.exception), "Ring(('p', 'q'))")
        with self.assertRaises(PadError) as caught:
            book.drop("p")
        self.assertEqual(repr(caught.exception), "InUse('q')")
        from anypads.claims import same
        from anypads.terms import align, number, place, size
        book += same(size("int"), number(4))
        book += same(align("int"), number(4))
        self.assertEqual([str(fact) for fact in book.facts], ['size int = 4', 'align int = 4'])
        answers = [book(same(size("p"), number(8))).word, book(same(place("q", "last"), number(8))).word]
        self.assertEqual(answers, ['always', 'breaks'])
        with self.assertRaises(PadError) as caught:
            book += same(size("long"), number(12))
        self.assertEqual(repr(caught.exception), "Barred()")
        self.assertEqual(book.tried(lambda same_book: [same_book.drop("q"), len(same_book)]), [None, 1])
        self.assertEqual(len(book), 2)

    def test_verdicts_and_fewest(self):
        from anypads.books import Book
        from anypads.claims import at_most, less, same
        from anypads.parts import Kind, Record
        from anypads.terms import align, place, size
        from anypads.trees import LEAF, ask, grafted, leaves, size_of
        from anypads.verdicts import decide
        short, int_ = Kind("short"), Kind("int")
        both = Book(short, int_)
        both["p"] = Record([("x", short), ("y", int_)])
        both["q"] = Record([("x", short), ("z", short), ("y", int_)])
        natural = [same(size("short"), align("short")), same(size("int"), align("int"))]
        claim = same(place("p", "y"), place("q", "y"))
        found = decide(both, claim, natural)
        self.assertEqual([found.word, str(found.machine), bool(found)], ['breaks', 'short 0 0, int 0 0', False])
        self.assertIs(bool(decide(both, claim, natural + [less(size("short"), size("int"))])), True)
        told = [str(decide(both, at_most(size("short"), size("int"))).machine), decide(both, claim, [less(size("int"), align("int"))]).word]
        self.assertEqual(told, ['short 1 0, int 0 0', 'nothing'])
        tree = ask("size short", "size int", 0, LEAF, LEAF)
        self.assertEqual([size_of(grafted(tree, tree)), len(list(leaves(both, grafted(tree, tree))))], [3, 2])
        from anypads.fewest import fewest, fewest_barred
        offered = [at_most(size("short"), size("int")), less(size("short"), size("int")), less(size("int"), size("short"))]
        free = Book(short, int_)
        free += natural[0]
        free += natural[1]
        free["p"], free["q"] = both["p"], both["q"]
        told = fewest(free, claim, offered)
        self.assertEqual(
            [told[0], told[1], [(row[0], str(row[1])) for row in told[4]]],
            ['some', (1,), [((), 'short 0 0, int 0 0'), ((0,), 'short 0 0, int 0 0')]],
        )
        self.assertEqual(fewest(free, claim, offered[:1])[0], 'none')
        self.assertEqual(fewest_barred(free, offered)[1], (0, 2))

    def test_regions(self):
        from anypads.books import Book
        from anypads.claims import at_most, yes
        from anypads.parts import Byte, Kind, Record
        from anypads.regions import implied, region, span, sure, told_sizes
        from anypads.terms import align, number, place, size
        book = Book(Kind("int"))
        book["r"] = Record([("a", Byte()), ("b", book["int"])])
        small = region(book, at_most(size("r"), number(4)))
        self.assertEqual(
            [small.count(), [machine["size int"] for machine in small.ascending(9)], small.endless, region(book, yes()).endless],
            [3, [0, 1, 1], (), ('size int', 'align int')],
        )
        six = told_sizes(book, {"r": 6})
        self.assertEqual(
            [sure(six, size("int")), sure(six, place("r", "b")), sure(book, align("int")), span(book, size("r")).low,
             implied(six, "size int", "align int")],
            [4, 2, None, 2, (1, 1)],
        )
        with self.assertRaises(PadError) as caught:
            told_sizes(book, {"r": 7})
        self.assertEqual(repr(caught.exception), "Barred()")

    def test_orders(self):
        from anypads.books import Book
        from anypads.claims import same
        from anypads.orders import fewest_orders, shows_orders
        from anypads.parts import Kind, Record
        from anypads.terms import align, size
        a, b, c = Kind("a"), Kind("b"), Kind("c")
        book = Book(a, b, c)
        book.set_facts([same(size(name), align(name)) for name in ("a", "b", "c")])
        book["r"] = Record([("x", a), ("y", b), ("z", c)])
        paper = fewest_orders(book, "r")
        self.assertEqual([paper[0], shows_orders(book, "r", paper)], [((0, 1, 2), (0, 2, 1)), True])

    def test_texts_and_desk(self):
        from anypads.desk import Desk
        from anypads.parts import Kind
        from anypads.texts import read_claim, read_machine, read_part, read_term
        KINDS = [Kind("int"), Kind("long", 3)]
        part = read_part("{x:2*byte y:(a:int|b:@other)}", KINDS)
        self.assertEqual(
            [str(part), len(part), str(read_term("size p + 2*(align int) + 0")), str(read_claim("not (size p <= 4)"))],
            ['{x:2*byte y:(a:int|b:@other)}', 2, 'size p + 2*(align int) + 0', 'not (size p <= 4)'],
        )
        desk = Desk()
        lines = ["kinds int 1", "set p {x:byte y:int}", "fact size int = align int", "ask size p = 2*(size int)", "at int 2 2 : place p y", "span size p"]
        self.assertEqual(desk.run(*lines), ['ok', 'ok', 'ok', 'always', '4', '2 to endless'])
        answers = [desk.say("undo"), desk.say("ask size p = 2*(size int)"), desk.say("least"), len(desk)]
        self.assertEqual(answers, ['ok', 'breaks int 1 0', 'int 0 0', 2])
        for call, told, at in [
            (read_part, ("{x:2*byte y:65*byte}", KINDS), 13), (read_machine, ("int 2 3, long 4 4", KINDS), 6), (read_part, ("{end:byte}", KINDS), 4),
            (read_part, ("5*5*5*5*5*byte", KINDS), 8), (desk.say, ("ask size p = ",), 13),
        ]:
            with self.assertRaises(PadError) as caught:
                call(*told)
            self.assertEqual(repr(caught.exception), f"BadText({at})")


if __name__ == "__main__":
    unittest.main()

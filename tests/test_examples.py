"""The examples of the document, as far as they use what is there."""

import unittest

from anypads.errors import PadError
from tests.books import Shelf


class Parts(unittest.TestCase):
    def test_parts(self):
        from anypads.parts import Byte, Kind, Overlay, Record, Row, Use, units
        number = Kind("int")
        pair = Record([("tag", Byte()), ("count", number)])
        both = pair + Record([("rest", Byte() * 3)])
        self.assertEqual(
            [len(both), list(both.paths()), both["rest.2"] == Byte(), "rest.3" in both, units(both)],
            [3, ['tag', 'count', 'rest'], True, False, 8],
        )
        view = Overlay([("raw", Row(Byte(), 4)), ("both", pair)])
        self.assertEqual(
            [list(view.paths()), units(view), [kind.name for kind in view.kinds_in()], view.depth],
            [['raw', 'both', 'both.tag', 'both.count'], 5, ['int'], 2],
        )
        with self.assertRaises(PadError) as caught:
            pair["count.x"]
        self.assertEqual(repr(caught.exception), "NoPath('count.x', 1)")
        with self.assertRaises(PadError) as caught:
            Record([("a", Byte()), ("a", number)])
        self.assertEqual(repr(caught.exception), "BadParts(1)")
        self.assertEqual(str(Use("p")), "@p")

    def test_machines(self):
        from anypads.machines import Machine
        from anypads.parts import Byte, Kind, Record
        number = Kind("int")
        long = Kind("long")
        machine = Machine([number, long], {"int": (2, 2), "long": (3, 2)})
        r = Record([("tag", Byte()), ("count", number), ("total", long), ("rest", Byte() * 3)])
        self.assertEqual(
            [machine.size(r), machine.align(r), machine.place(r, "total"), machine.end(r, "rest"), machine.place(r, "rest.1")],
            [20, 4, 8, 19, 17],
        )
        wide = machine.raised("align long", 1)
        self.assertEqual(
            [wide.size(r), machine < wide, machine & wide == machine, machine.near(1)["size long"]], [24, True, True, 2],
        )
        self.assertEqual(wide.place(r, "total"), 8)
        from anypads.images import image, number_at, patched
        shown = image(machine, r, {"tag": 7, "count": 258, "total": 1, "rest": [1, 2, 3]})
        self.assertEqual(
            [shown, number_at(machine, r, shown, "count"), patched(machine, r, shown, "rest.2", 9)[16:]],
            [[7, 0, 0, 0, 2, 1, 0, 0, 1, 0, 0, 0, 0, 0, 0, 0, 1, 2, 3, 0], 258, [1, 2, 9, 0]],
        )
        with self.assertRaises(PadError) as caught:
            Machine([number], {"int": (1, 2)})
        self.assertEqual(repr(caught.exception), "NoMachine('align int')")

    def test_zones(self):
        from anypads.parts import Kind
        from anypads.zones import Zone
        zone = Zone(Kind("int"), Kind("long")).within("size int", "size long", 0).within("size long", "byte", 3)
        self.assertEqual(
            [zone["size int", "byte"], zone["align int", "size long"], zone["byte", "align int"], zone["size long", "align long"]],
            [3, 0, 0, 3],
        )
        self.assertEqual(
            zone.within("align int", "align long", -1).least(),
            {'size int': 0, 'align int': 0, 'size long': 1, 'align long': 1},
        )
        none = zone.within("byte", "align int", -4)
        ring = [("byte", "align int", -4), ("align int", "size int", 0), ("size int", "size long", 0), ("size long", "byte", 3)]
        self.assertEqual([bool(none), none.is_ring(ring)], [False, True])
        self.assertEqual([tuple(point.values()) for point in Zone(Kind("int")).walk(1)], [(0, 0), (1, 0), (1, 1)])
        self.assertEqual(
            str(Zone(Kind("int")).within("size int", "byte", 2)),
            'byte - size int <= 0, byte - align int <= 0, size int - byte <= 2, size int - align int <= 2, '
            'align int - byte <= 2, align int - size int <= 0',
        )
        with self.assertRaises(PadError) as caught:
            zone["size int", "size short"]
        self.assertEqual(repr(caught.exception), "NoScale('size short')")

    def test_settle(self):
        from anypads.parts import Byte, Kind, Record
        from anypads.settle import place_form
        from anypads.zones import Zone
        long = Kind("long")
        zone = Zone.of([long]).within("byte", "align long", -1)
        part = Record([("tag", Byte()), ("more", Byte()), ("value", long)])
        self.assertEqual([str(place_form(zone, part, "value")), place_form(Zone.of([long]), part, "value")], ['1*align long', None])

    def test_claims(self):
        from anypads.claims import at_most, less, no_gap, plain, reach, same, stands_in, told
        from anypads.machines import Machine
        from anypads.parts import Kind, Record
        from anypads.terms import align, number, place, size, units_of, value
        from anypads.zones import Zone
        i, d = Kind("i"), Kind("d")
        pads = Shelf([i, d], {"p": Record([("x", i), ("y", d)]), "q": Record([("x", i), ("z", i), ("y", d)])})
        one = same(place("p", "y"), place("q", "y"))
        machine = Machine([i, d], {"i": (2, 2), "d": (3, 3)})
        self.assertEqual(
            [units_of(pads, place("q", "y")), reach(pads, one), value(pads, 2 * size("p") + number(1), machine)], [6, 3, 33],
        )
        zone = Zone(i, d).within("size i", "align d", -1)
        claims = [one, at_most(place("p", "y"), size("i")), no_gap("p", "y"), stands_in("q", "p")]
        self.assertEqual(
            [[told(pads, claim, where) for claim in claims] for where in (zone, Zone(i, d))],
            [[True, False, False, True], [None, None, None, None]],
        )
        self.assertIs(plain(pads, stands_in("q", "p")) == same(place("q", "x"), place("p", "x")) & one, False)
        self.assertIs(told(pads, less(size("i"), align("d")), zone), True)

    def test_trees(self):
        from anypads.parts import Kind
        from anypads.trees import LEAF, ask, grafted, leaves, size_of
        both = Shelf([Kind("short"), Kind("int")], {})
        tree = ask("size short", "size int", 0, LEAF, LEAF)
        self.assertEqual([size_of(grafted(tree, tree)), len(list(leaves(both, grafted(tree, tree))))], [3, 2])

    def test_texts_told_by_later_examples(self):
        from anypads.machines import Machine
        from anypads.parts import Byte, Kind, Overlay, Record, Use
        q = Record([("head", Use("p")), ("last", Kind("long"))])
        self.assertEqual(str(q), '{head:@p last:long}')
        whole = q.put("head", Record([("x", Byte()), ("y", Kind("int"))]))
        self.assertEqual(str(whole), '{head:{x:byte y:int} last:long}')
        part = Record([("x", Byte() * 2), ("y", Overlay([("a", Kind("int")), ("b", Use("other"))]))])
        self.assertEqual([str(part), len(part)], ['{x:2*byte y:(a:int|b:@other)}', 2])
        least = Machine([Kind("short"), Kind("int")], {"short": (1, 0), "int": (0, 0)})
        self.assertEqual(str(least), 'short 1 0, int 0 0')
        from anypads.claims import at_most, same
        from anypads.terms import align, number, size
        self.assertEqual([str(same(call("int"), number(4))) for call in (size, align)], ['size int = 4', 'align int = 4'])
        self.assertEqual(str(size("p") + 2 * align("int") + number(0)), 'size p + 2*(align int) + 0')
        self.assertEqual(str(~at_most(size("p"), number(4))), 'not (size p <= 4)')


if __name__ == "__main__":
    unittest.main()

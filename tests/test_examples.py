"""The examples of the document, as far as they use what is there."""

import unittest

from anypads.errors import PadError


class Parts(unittest.TestCase):
    def test_parts(self):
        from anypads.parts import Byte, Kind, Overlay, Record, Row, Use, units
        number = Kind("int")
        pair = Record([("tag", Byte()), ("count", number)])
        both = pair + Record([("rest", Byte() * 3)])
        self.assertEqual(
            [len(both), list(both.paths()), both["rest.2"] == Byte(), "rest.3" in both, units(both)],
            [3, ['tag', 'count', 'rest'], True, False, 8],
        )
        view = Overlay([("raw", Row(Byte(), 4)), ("both", pair)])
        self.assertEqual(
            [list(view.paths()), units(view), [kind.name for kind in view.kinds_in()], view.depth],
            [['raw', 'both', 'both.tag', 'both.count'], 5, ['int'], 2],
        )
        with self.assertRaises(PadError) as caught:
            pair["count.x"]
        self.assertEqual(repr(caught.exception), "NoPath('count.x', 1)")
        with self.assertRaises(PadError) as caught:
            Record([("a", Byte()), ("a", number)])
        self.assertEqual(repr(caught.exception), "BadParts(1)")
        self.assertEqual(str(Use("p")), "@p")

    def test_machines(self):
        from anypads.machines import Machine
        from anypads.parts import Byte, Kind, Record
        number = Kind("int")
        long = Kind("long")
        machine = Machine([number, long], {"int": (2, 2), "long": (3, 2)})
        r = Record([("tag", Byte()), ("count", number), ("total", long), ("rest", Byte() * 3)])
        self.assertEqual(
            [machine.size(r), machine.align(r), machine.place(r, "total"), machine.end(r, "rest"), machine.place(r, "rest.1")],
            [20, 4, 8, 19, 17],
        )
        wide = machine.raised("align long", 1)
        self.assertEqual(
            [wide.size(r), machine < wide, machine & wide == machine, machine.near(1)["size long"]], [24, True, True, 2],
        )
        self.assertEqual(wide.place(r, "total"), 8)
        with self.assertRaises(PadError) as caught:
            Machine([number], {"int": (1, 2)})
        self.assertEqual(repr(caught.exception), "NoMachine('align int')")

    def test_texts_told_by_later_examples(self):
        from anypads.machines import Machine
        from anypads.parts import Byte, Kind, Overlay, Record, Use
        q = Record([("head", Use("p")), ("last", Kind("long"))])
        self.assertEqual(str(q), '{head:@p last:long}')
        whole = q.put("head", Record([("x", Byte()), ("y", Kind("int"))]))
        self.assertEqual(str(whole), '{head:{x:byte y:int} last:long}')
        part = Record([("x", Byte() * 2), ("y", Overlay([("a", Kind("int")), ("b", Use("other"))]))])
        self.assertEqual([str(part), len(part)], ['{x:2*byte y:(a:int|b:@other)}', 2])
        least = Machine([Kind("short"), Kind("int")], {"short": (1, 0), "int": (0, 0)})
        self.assertEqual(str(least), 'short 1 0, int 0 0')


if __name__ == "__main__":
    unittest.main()

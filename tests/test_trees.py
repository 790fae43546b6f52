"""[P1] expressions, as trees and as they are told, and [A2] what is refused of them: measurewise.trees."""

import random
import unittest

import drawn
from measurewise.errors import BadText
from measurewise.trees import Call, Choice, Loop, Name, Negative, Node, Number, Power, Product, Sum, node_of
from samples import nested, no_numbers_no_texts, Sullen

A = ("name", "a")
B = ("name", "b")
C = ("name", "c")
D = ("name", "d")
ONE = ("number", (1, 1), ())
METRE = (("m", 1),)


def each_by_hand():
    """Of each class a node made by hand, what it is told as, its class, its kids as told, and its text."""
    a, b, c, d = Name("a"), Name("b"), Name("c"), Name("d")
    return [
        (Number((3, 4), METRE), ("number", (3, 4), METRE), Number, [], "3:4[m]"),
        (Number((0, 1), None), ("number", (0, 1), None), Number, [], "0"),
        (Number((0, 1), ()), ("number", (0, 1), ()), Number, [], "0[]"),
        (Number((5, 1), ()), ("number", (5, 1), ()), Number, [], "5"),
        (Name("speed"), ("name", "speed"), Name, [], "speed"),
        (Negative(a), ("negative", A), Negative, [A], "-a"),
        (Sum(a, b, "plus"), ("plus", A, B), Sum, [A, B], "a + b"),
        (Sum(a, b, "minus"), ("minus", A, B), Sum, [A, B], "a - b"),
        (Product(a, b, "times"), ("times", A, B), Product, [A, B], "a * b"),
        (Product(a, b, "over"), ("over", A, B), Product, [A, B], "a / b"),
        (Power(a, -5), ("power", A, -5), Power, [A], "a^-5"),
        (Power(a, 0), ("power", A, 0), Power, [A], "a^0"),
        (Choice(a, b, c, d), ("if", A, B, C, D), Choice, [A, B, C, D], "if a < b then c else d"),
        (Loop("x", a, 12, b), ("loop", "x", A, 12, B), Loop, [A, B], "loop x = a for 12 do b"),
        (Loop("x", a, 0, b), ("loop", "x", A, 0, B), Loop, [A, B], "loop x = a for 0 do b"),
        (Call("f", [a]), ("call", "f", (A,)), Call, [A], "f(a)"),
        (Call("f", [a, b, c]), ("call", "f", (A, B, C)), Call, [A, B, C], "f(a, b, c)"),
        (Call("f", (a, b)), ("call", "f", (A, B)), Call, [A, B], "f(a, b)"),
    ]


def chain(depth):
    return drawn.chain(depth, A)


def broad(nodes):
    return drawn.broad(nodes, A)


class Made(unittest.TestCase):
    def test_by_hand(self):
        for node, told, kind, kids, text in each_by_hand():
            with self.subTest(text=text):
                self.ask(node, told, kind, kids, text)

    def test_by_what_is_told(self):
        for node, told, kind, kids, text in each_by_hand():
            with self.subTest(text=text):
                self.ask(node_of(told), told, kind, kids, text)
                self.assertEqual(vars(node_of(told)).keys(), vars(node).keys())

    def ask(self, node, told, kind, kids, text):
        self.assertIs(node.__class__, kind)
        self.assertIsInstance(node, Node)
        self.assertEqual(node.told(), told)
        self.assertIs(node.told().__class__, tuple)
        self.assertIs(node.kids().__class__, list)
        self.assertEqual([kid.told() for kid in node.kids()], kids)
        for kid in node.kids():
            self.assertIs(kid.__class__, Name)
        self.assertEqual(node.size(), 1 + len(kids))
        self.assertEqual(node.depth(), 2 if kids else 1)
        self.assertEqual(node.written(), text)

    def test_classes_stand_straight_beneath_node(self):
        for kind in (Number, Name, Negative, Sum, Product, Power, Choice, Loop, Call):
            self.assertEqual(kind.__bases__, (Node,))

    def test_values_that_they_are_made_of(self):
        a, b = Name("a"), Name("b")
        self.assertEqual((Number((3, 4), METRE).amount, Number((3, 4), METRE).unit), ((3, 4), METRE))
        self.assertEqual(a.name, "a")
        self.assertEqual(Negative(a).node.told(), A)
        for made, sign in ((Sum(a, b, "minus"), "minus"), (Product(a, b, "over"), "over")):
            self.assertEqual((made.one.told(), made.other.told(), made.sign), (A, B, sign))
        self.assertEqual((Power(a, 3).node.told(), Power(a, 3).exponent), (A, 3))
        choice = node_of(("if", A, B, C, D))
        self.assertEqual([kid.told() for kid in (choice.one, choice.other, choice.yes, choice.no)], [A, B, C, D])
        loop = node_of(("loop", "x", A, 3, B))
        self.assertEqual((loop.name, loop.start.told(), loop.rounds, loop.body.told()), ("x", A, 3, B))
        call = node_of(("call", "f", (A, B)))
        self.assertEqual((call.name, [kid.told() for kid in call.nodes]), ("f", [A, B]))

    def test_by_names_of_arguments(self):
        a = Name(name="a")
        self.assertEqual(Number(amount=(1, 1), unit=()).told(), ONE)
        self.assertEqual(Negative(node=a).told(), ("negative", A))
        self.assertEqual(Sum(one=a, other=a, sign="plus").told(), ("plus", A, A))
        self.assertEqual(Product(one=a, other=a, sign="over").told(), ("over", A, A))
        self.assertEqual(Power(node=a, exponent=2).told(), ("power", A, 2))
        self.assertEqual(Choice(one=a, other=a, yes=a, no=a).told(), ("if", A, A, A, A))
        self.assertEqual(Loop(name="x", start=a, rounds=1, body=a).told(), ("loop", "x", A, 1, A))
        self.assertEqual(Call(name="f", nodes=[a]).told(), ("call", "f", (A,)))
        self.assertEqual(node_of(told=A).told(), A)

    def test_drawn_ones(self):
        source = random.Random(11)
        for turn in range(300):
            told = drawn.expression(source, source.randint(1, 40), 10)
            node = node_of(told)
            self.assertEqual(node.told(), told)
            self.assertEqual(node.size(), 1 + sum(kid.size() for kid in node.kids()))
            self.assertEqual(node.depth(), 1 + max([kid.depth() for kid in node.kids()], default=0))
            for kid in node.kids():
                self.assertEqual(node_of(kid.told()).told(), kid.told())


class Bounds(unittest.TestCase):
    def test_forty_nodes_and_forty_one(self):
        self.assertEqual(node_of(broad(40)).size(), 40)
        self.refuse(broad(41))
        self.refuse(broad(200))
        self.assertEqual(node_of(("call", "f", (broad(13), broad(13), broad(13)))).size(), 40)
        self.refuse(("call", "f", (broad(13), broad(13), broad(14))))

    def test_ten_deep_and_eleven(self):
        self.assertEqual(node_of(chain(10)).depth(), 10)
        self.refuse(chain(11))
        self.refuse(chain(99))
        self.refuse(("plus", A, chain(10)))
        self.assertEqual(node_of(("plus", A, chain(9))).depth(), 10)

    def test_what_has_more_nodes_than_could_be_walked(self):
        told = A
        for level in range(98):
            told = ("if", told, told, told, told)
        self.refuse(told)

    def test_by_hand_there_may_be_more(self):
        node = Name("a")
        for level in range(20):
            node = Negative(node)
        self.assertEqual((node.size(), node.depth(), node.written()), (21, 21, "-" * 20 + "a"))
        for level in range(2):
            node = Sum(node, node, "plus")
        self.assertEqual((node.size(), node.depth()), (87, 23))

    def refuse(self, told):
        with self.assertRaises(BadText) as refusal:
            node_of(told)
        self.assertIsNone(refusal.exception.at)


class Refused(unittest.TestCase):
    WRONG = (
        (), ("a",), ("",), "name", ["name", "a"], ("Name", "a"), ("names", "a"), ("unit", "m"), ("show", A), (A,),
        (1, "a"), (None, "a"), (("name",), "a"), (Sullen(), "a"), ("plus ", A, A),
        ("name",), ("name", "a", "a"), ("name", "A"), ("name", ""), ("name", "unit"), ("name", "abcdefghi"),
        ("name", None), ("name", 1), ("name", A), ("name", ["a"]), ("name", Sullen()),
        ("number",), ("number", (1, 1)), ("number", (1, 1), (), ()), ("number", 1, ()), ("number", "1", ()),
        ("number", (-1, 1), ()), ("number", (-3, 4), METRE), ("number", (2, 4), ()), ("number", (0, 2), ()),
        ("number", (0, 2), None), ("number", (1, 0), ()), ("number", (1, -1), ()), ("number", [1, 1], ()),
        ("number", (True, 1), ()), ("number", (1, True), ()), ("number", (False, 1), ()), ("number", (1, 1, 1), ()),
        ("number", (False, 1), None), ("number", (1.0, 1), ()), ("number", None, ()), ("number", Sullen(), ()),
        ("number", (1, 1), None), ("number", (3, 4), None), ("number", (1, 1), "m"), ("number", (1, 1), []),
        ("number", (1, 1), [("m", 1)]), ("number", (1, 1), (["m", 1],)), ("number", (1, 1), (("m", 0),)),
        ("number", (1, 1), (("m", 10),)), ("number", (1, 1), (("m", -10),)), ("number", (0, 1), (("m", 10),)),
        ("number", (1, 1), (("a", 1), ("m", -10))), ("number", (1, 1), (("s", 1), ("m", 1))),
        ("number", (1, 1), (("m", 1), ("m", 1))), ("number", (1, 1), (("m", True),)), ("number", (1, 1), 0),
        ("number", (1, 1), (("do", 1),)), ("number", (0, 1), False), ("number", (1, 1), Sullen()),
        ("negative",), ("negative", A, A), ("negative", "a"), ("negative", None), ("negative", ["name", "a"]),
        ("plus", A), ("plus", A, A, A), ("plus", A, "a"), ("plus", None, A), ("minus", A), ("minus", A, A, A),
        ("times", A), ("times", A, A, A), ("times", A, ["name", "a"]), ("over", A), ("over", A, A, A), ("over", A, 1),
        ("power", A), ("power", 2, A), ("power", A, 6), ("power", A, -6), ("power", A, True), ("power", A, False),
        ("power", A, 2.0), ("power", A, "2"), ("power", A, None), ("power", A, (2, 1)), ("power", A, 2, 2),
        ("power", A, 10 ** 3000), ("power", A, Sullen()), ("power", "a", 2),
        ("if", A, A, A), ("if", A, A, A, A, A), ("if", A, A, A, "a"), ("if", None, A, A, A),
        ("loop", "x", A, 3), ("loop", "x", A, 3, A, A), ("loop", "X", A, 3, A), ("loop", "loop", A, 3, A),
        ("loop", A, A, 3, A), ("loop", "x", A, 13, A), ("loop", "x", A, -1, A), ("loop", "x", A, True, A),
        ("loop", "x", A, False, A), ("loop", "x", A, "3", A), ("loop", "x", A, (3, 1), A), ("loop", "x", A, 3.0, A),
        ("loop", "x", 3, A, A), ("loop", "x", "a", 3, A), ("loop", "x", A, 3, "a"), ("loop", None, A, 3, A),
        ("call", "f"), ("call", "f", ()), ("call", "f", (A, A, A, A)), ("call", "f", [A]), ("call", "f", A),
        ("call", "f", A, A), ("call", "f", ("a",)), ("call", "F", (A,)), ("call", "if", (A,)), ("call", A, (A,)),
        ("call", "f", (A, None)), ("call", "f", (["name", "a"],)), ("call", "f", None), ("call", "f", "a"),
        ("call", Sullen(), (A,)), ("call", "f", Sullen()), ("call", "f", {0: A}),
    )

    def refuse(self, told):
        with self.assertRaises(BadText) as refusal:
            node_of(told)
        self.assertIsNone(refusal.exception.at)

    def test_what_no_expression_is_told_as(self):
        for place, told in enumerate(self.WRONG):
            with self.subTest(place=place):
                self.refuse(told)

    def test_beneath_others(self):
        for place, told in enumerate(self.WRONG):
            with self.subTest(place=place):
                self.refuse(("negative", told))
                self.refuse(("plus", A, told))
                self.refuse(("if", A, A, told, A))
                self.refuse(("loop", "x", A, 3, told))
                self.refuse(("call", "f", (A, A, told)))

    def test_things_of_any_kind(self):
        for thing in no_numbers_no_texts() + ["", "A", 6, -6, nested(100), Name("a"), [A]]:
            self.refuse(thing)
            self.refuse(("name", thing))
            self.refuse(("number", thing, ()))
            self.refuse(("plus", A, thing))
            self.refuse(("power", A, thing))
            self.refuse(("call", "f", thing))
            self.refuse((thing, A))

    def test_bounds_that_are_let_by(self):
        for told in (("power", A, 5), ("power", A, -5), ("power", A, 0), ("loop", "x", A, 0, A),
                     ("loop", "x", A, 12, A), ("call", "f", (A,)), ("call", "f", (A, A, A)),
                     ("number", (1, 1), (("m", 9), ("s", -9))), ("number", (0, 1), None), ("number", (0, 1), METRE),
                     ("number", (10 ** 2000, 3), METRE), ("name", "abcdefgh")):
            self.assertEqual(node_of(told).told(), told)


class Kept(unittest.TestCase):
    def test_a_list_changed_behind(self):
        nodes = [Name("a"), Name("b")]
        call = Call("f", nodes)
        nodes.append(Name("c"))
        nodes[0] = Name("z")
        self.assertEqual(call.told(), ("call", "f", (A, B)))
        self.assertEqual([kid.told() for kid in call.kids()], [A, B])
        self.assertEqual((call.size(), call.written()), (3, "f(a, b)"))
        self.assertEqual(len(nodes), 3)

    def test_kids_changed_behind(self):
        for node, told, kind, kids, text in each_by_hand():
            found = node.kids()
            found.append(Name("z"))
            found[0] = Name("y")
            self.assertEqual(node.told(), told)
            self.assertEqual([kid.told() for kid in node.kids()], kids)
            self.assertEqual((node.size(), node.written()), (1 + len(kids), text))

    def test_values_of_a_kid_changed_behind(self):
        for node, told, kind, kids, text in each_by_hand():
            for kid in node.kids():
                kid.name = "y"
                kid.parts = ("name", "y")
            self.assertEqual(node.told(), told)
            self.assertEqual([kid.told() for kid in node.kids()], kids)
            self.assertEqual(node.written(), text)

    def test_a_node_changed_behind_that_was_handed_in(self):
        inner = Name("a")
        outer = Negative(inner)
        inner.name = "z"
        self.assertEqual((outer.told(), outer.written()), (("negative", A), "-a"))

    def test_a_kid_is_told_anew_each_time(self):
        node = Sum(Name("a"), Name("b"), "plus")
        first = node.kids()
        self.assertEqual([kid.told() for kid in first], [kid.told() for kid in node.kids()])


if __name__ == "__main__":
    unittest.main()

"""Promise 16: ways, duties, their order and their names."""

import itertools
import unittest

from answers import asked
from outlineward.checks import check
from outlineward.duties import duties
from outlineward.errors import OutlineError, TooMany
from outlineward.reader import read
from samples import FILL, TRUE, ZERO, at, branch, each, least, loop, num, proc, rise

P, Q, L, M = [least(num("x"), ZERO, c) for c in (1, 2, 3, 4)]
NOT_P, NOT_Q, NOT_L, NOT_M = [least(ZERO, num("x"), 1 - c) for c in (1, 2, 3, 4)]
OUT = ("set", "out", ZERO, 0)


def know(claim):
    return ("know", claim)


def setting(x, c):
    return ("set", x, ZERO, c)


class Duties(unittest.TestCase):
    def told(self, program, expected):
        check(program)
        answer = asked(self, duties, program)
        self.assertIs(type(answer), list)
        for duty in answer:
            self.assertEqual([type(thing) for thing in duty[:5]], [str, str, tuple, int, list])
        self.assertEqual(answer, expected)

    def of_body(self, body, expected, **head):
        """Of a procedure f with the param x and this body just these duties: (kind, path, k, straight, goal)."""
        told = proc("f", **{"params": ["x"], "body": body, **head})
        self.told((told,), [("f",) + duty for duty in expected])

    def short(self, body, **head):
        """Kinds, paths and ks alone."""
        program = (proc("f", **{"params": ["x"], "rows": ["r"], "body": body, **head}),)
        check(program)
        return [duty[1:4] for duty in duties(program)]


class FirstWay(Duties):
    def test_numbers_that_are_no_params_then_needs(self):
        body = [("set", "z", num("k"), 1), ("any", "a"), ("claim", P)]
        needs = [least(num("x"), ZERO, 5), each(("", 0), ("x", 0), "r")]
        zeros = [("set", name, ZERO, 0) for name in ["a", "k", "out", "z"]]
        straight = zeros + [know(need) for need in needs] + body[:2]
        self.of_body(body, [("claim", (2,), 0, straight, P)], rows=["r"], needs=needs)

    def test_out_is_always_among_them(self):
        self.of_body([("claim", P)], [("claim", (0,), 0, [OUT], P)])
        body = [("set", "zz", ZERO, 1), ("any", "aa"), ("claim", P)]
        straight = [("set", "aa", ZERO, 0), OUT, ("set", "zz", ZERO, 0)] + body[:2]
        self.of_body(body, [("claim", (2,), 0, straight, P)])

    def test_numbers_that_only_a_claim_names(self):
        body = [("claim", least(num("b"), at("r", "c")))]
        straight = [("set", name, ZERO, 0) for name in ["b", "c", "out"]]
        self.of_body(body, [("claim", (0,), 0, straight, body[0][1])], rows=["r"])

    def test_no_body(self):
        self.of_body([], [])
        gives = [least(num("out"), ZERO), P]
        self.of_body([], [("give", (), k, [OUT], gives[k]) for k in (0, 1)], gives=gives)


class Straight(Duties):
    def test_set_put_and_any(self):
        body = [("set", "out", at("r", "x"), 3), ("put", "r", ("x", 1), num("out"), -3), ("any", "out"), ("claim", P)]
        self.of_body(body, [("claim", (3,), 0, [OUT] + body[:3], P)], rows=["r"])

    def test_claims_are_not_known_behind(self):
        body = [("claim", P), ("claim", Q), ("any", "out"), ("claim", P)]
        self.of_body(body, [
            ("claim", (0,), 0, [OUT], P), ("claim", (1,), 0, [OUT], Q), ("claim", (3,), 0, [OUT, ("any", "out")], P),
        ])

    def test_gives_come_last(self):
        body = [("claim", Q), ("any", "out")]
        gives = [P, least(num("out"), num("x")), rise(("", 0), ("x", 0), "r")]
        expected = [("claim", (0,), 0, [OUT], Q)]
        expected += [("give", (), k, [OUT, ("any", "out")], give) for k, give in enumerate(gives)]
        self.of_body(body, expected, rows=["r"], gives=gives)


class Ifs(Duties):
    def test_both_bodies_and_behind(self):
        body = [branch(L, [setting("out", 1), ("claim", P)], [("claim", Q), setting("out", 2)]), ("claim", M)]
        yes, no = [OUT, know(L), setting("out", 1)], [OUT, know(NOT_L)]
        self.of_body(body, [
            ("claim", (0, 0, 1), 0, yes, P), ("claim", (0, 1, 0), 0, no, Q),
            ("claim", (1,), 0, yes, M), ("claim", (1,), 0, no + [setting("out", 2)], M),
        ])

    def test_empty_bodies(self):
        self.of_body([branch(L), ("claim", P)], [
            ("claim", (1,), 0, [OUT, know(L)], P), ("claim", (1,), 0, [OUT, know(NOT_L)], P),
        ])

    def test_one_behind_the_other(self):
        """A body is walked once, with all ways together."""
        body = [branch(L, [setting("out", 1)], []), branch(M, [("claim", P)], [("claim", Q)]), ("claim", P)]
        one, two = [OUT, know(L), setting("out", 1)], [OUT, know(NOT_L)]
        self.of_body(body, [
            ("claim", (1, 0, 0), 0, one + [know(M)], P), ("claim", (1, 0, 0), 0, two + [know(M)], P),
            ("claim", (1, 1, 0), 0, one + [know(NOT_M)], Q), ("claim", (1, 1, 0), 0, two + [know(NOT_M)], Q),
            ("claim", (2,), 0, one + [know(M)], P), ("claim", (2,), 0, two + [know(M)], P),
            ("claim", (2,), 0, one + [know(NOT_M)], P), ("claim", (2,), 0, two + [know(NOT_M)], P),
        ])

    def test_ifs_within_ifs(self):
        inner = branch(M, [("claim", P)], [("claim", Q)])
        body = [branch(L, [setting("out", 1), inner], [inner]), ("claim", P)]
        yes, no = [OUT, know(L), setting("out", 1)], [OUT, know(NOT_L)]
        self.of_body(body, [
            ("claim", (0, 0, 1, 0, 0), 0, yes + [know(M)], P), ("claim", (0, 0, 1, 1, 0), 0, yes + [know(NOT_M)], Q),
            ("claim", (0, 1, 0, 0, 0), 0, no + [know(M)], P), ("claim", (0, 1, 0, 1, 0), 0, no + [know(NOT_M)], Q),
            ("claim", (1,), 0, yes + [know(M)], P), ("claim", (1,), 0, yes + [know(NOT_M)], P),
            ("claim", (1,), 0, no + [know(M)], P), ("claim", (1,), 0, no + [know(NOT_M)], P),
        ])

    def test_all_claims_of_the_first_way_first(self):
        gives = [P, Q]
        ways = [[OUT, know(L)], [OUT, know(NOT_L)]]
        expected = [("give", (), k, way, gives[k]) for way in ways for k in (0, 1)]
        self.of_body([branch(L)], expected, gives=gives)

    def test_turned(self):
        condition = least(at("r", "x", 1), num("out"), -4)
        turned = least(num("out"), at("r", "x", 1), 5)
        self.of_body([branch(condition, [], [("claim", P)])], [
            ("claim", (0, 1, 0), 0, [OUT, know(turned)], P),
        ], rows=["r"])


class Loops(Duties):
    def test_enter_within_keep_and_behind(self):
        keeps = [P, Q]
        body = [setting("out", 1), loop(L, keeps, [("claim", M), setting("out", 2)]), ("claim", M)]
        head = [know(P), know(Q)]
        self.of_body(body, [
            ("enter", (1,), 0, [OUT, setting("out", 1)], P), ("enter", (1,), 1, [OUT, setting("out", 1)], Q),
            ("claim", (1, 0, 0), 0, head + [know(L)], M),
            ("keep", (1,), 0, head + [know(L), setting("out", 2)], P),
            ("keep", (1,), 1, head + [know(L), setting("out", 2)], Q),
            ("claim", (2,), 0, head + [know(NOT_L)], M),
        ])

    def test_all_is_begun_anew(self):
        """Neither needs nor what was set ahead is known in the loop or behind it."""
        body = [setting("out", 7), loop(L, [], [("claim", P)]), ("claim", Q)]
        self.of_body(body, [("claim", (1, 0, 0), 0, [know(L)], P), ("claim", (2,), 0, [know(NOT_L)], Q)], needs=[M])

    def test_no_keeps_and_no_body(self):
        self.of_body([loop(L), ("claim", P)], [("claim", (1,), 0, [know(NOT_L)], P)])
        self.of_body([loop(L, [P])], [("enter", (0,), 0, [OUT], P), ("keep", (0,), 0, [know(P), know(L)], P)])

    def test_many_keeps(self):
        keeps = [least(num("x"), ZERO, c) for c in range(6)]
        head = [know(keep) for keep in keeps]
        expected = [("enter", (0,), k, [OUT], keep) for k, keep in enumerate(keeps)]
        expected += [("keep", (0,), k, head + [know(L), ("any", "out")], keep) for k, keep in enumerate(keeps)]
        self.of_body([loop(L, keeps, [("any", "out")])], expected)

    def test_a_loop_behind_an_if(self):
        keeps = [P, Q]
        head = [know(P), know(Q)]
        ways = [[OUT, know(M)], [OUT, know(NOT_M)]]
        expected = [("enter", (1,), k, way, keeps[k]) for way in ways for k in (0, 1)]
        expected += [("keep", (1,), k, head + [know(L)], keeps[k]) for k in (0, 1)]
        expected += [("claim", (2,), 0, head + [know(NOT_L)], M)]
        self.of_body([branch(M), loop(L, keeps), ("claim", M)], expected)

    def test_an_if_in_a_loop(self):
        keeps = [P, Q]
        head = [know(P), know(Q), know(L)]
        ways = [head + [know(M), setting("out", 1)], head + [know(NOT_M)]]
        expected = [("enter", (0,), k, [OUT], keeps[k]) for k in (0, 1)]
        expected += [("claim", (0, 0, 0, 1, 0), 0, ways[1], L)]
        expected += [("keep", (0,), k, way, keeps[k]) for way in ways for k in (0, 1)]
        self.of_body([loop(L, keeps, [branch(M, [setting("out", 1)], [("claim", L)])])], expected)

    def test_a_loop_in_an_if(self):
        body = [branch(M, [loop(L, [P], [("any", "out")])], [loop(L, [Q])]), ("claim", M)]
        self.of_body(body, [
            ("enter", (0, 0, 0), 0, [OUT, know(M)], P),
            ("keep", (0, 0, 0), 0, [know(P), know(L), ("any", "out")], P),
            ("enter", (0, 1, 0), 0, [OUT, know(NOT_M)], Q),
            ("keep", (0, 1, 0), 0, [know(Q), know(L)], Q),
            ("claim", (1,), 0, [know(P), know(NOT_L)], M), ("claim", (1,), 0, [know(Q), know(NOT_L)], M),
        ])

    def test_a_loop_in_a_loop(self):
        body = [loop(L, [P], [("any", "out"), loop(M, [Q], [("claim", L)]), ("claim", M)])]
        self.of_body(body, [
            ("enter", (0,), 0, [OUT], P),
            ("enter", (0, 0, 1), 0, [know(P), know(L), ("any", "out")], Q),
            ("claim", (0, 0, 1, 0, 0), 0, [know(Q), know(M)], L),
            ("keep", (0, 0, 1), 0, [know(Q), know(M)], Q),
            ("claim", (0, 0, 2), 0, [know(Q), know(NOT_M)], M),
            ("keep", (0,), 0, [know(Q), know(NOT_M)], P),
        ])


class Calls(Duties):
    G = proc("g", ["a", "b"], ["p", "q"], [
        least(num("a"), num("b"), 1), each(("a", 0), ("b", 2), "p", "<=", ("row", "q"), 3),
    ], [
        least(num("out"), num("a")), each(("", 0), ("out", -1), "q", ">=", num("b")), rise(("a", 0), ("b", 0), "p"),
    ])

    def test_needs_gives_and_what_is_lost(self):
        body = [("call", "k", "g", ("x", "k"), ("r", "s")), ("claim", P)]
        handed = [("set", "k", ZERO, 0), OUT, ("set", "g.a", num("x"), 0), ("set", "g.b", num("k"), 0)]
        gives = [
            least(num("k"), num("g.a")), each(("", 0), ("k", -1), "s", ">=", num("g.b")),
            rise(("g.a", 0), ("g.b", 0), "r"),
        ]
        behind = handed + [("lose", "r"), ("lose", "s"), ("any", "k")] + [know(give) for give in gives]
        own = [OUT] + [know(need) for need in self.G[4]]
        self.told((proc("f", ["x"], ["r", "s"], body=body), self.G), [
            ("f", "need", (0,), 0, handed, least(num("g.a"), num("g.b"), 1)),
            ("f", "need", (0,), 1, handed, each(("g.a", 0), ("g.b", 2), "r", "<=", ("row", "s"), 3)),
            ("f", "claim", (1,), 0, behind, P),
        ] + [("g", "give", (), k, own, give) for k, give in enumerate(self.G[5])])

    def test_rows_in_another_order(self):
        body = [("call", "k", "g", ("x", "k"), ("q", "p")), ("claim", P)]
        told = duties((self.G, proc("f", ["x"], ["p", "q"], body=body)))[3:]
        self.assertEqual(told[1][5], each(("g.a", 0), ("g.b", 2), "q", "<=", ("row", "p"), 3))
        self.assertEqual(told[2][4][4:7], [("lose", "q"), ("lose", "p"), ("any", "k")])
        self.assertEqual(told[2][4][7], know(least(num("k"), num("g.a"))))
        self.assertEqual(told[2][4][8], know(each(("", 0), ("k", -1), "p", ">=", num("g.b"))))
        self.assertEqual(told[2][4][9], know(rise(("g.a", 0), ("g.b", 0), "q")))

    def test_args_alike_and_x_among_them(self):
        body = [("call", "k", "g", ("k", "k"), ("r", "s")), ("claim", P)]
        told = duties((proc("f", ["x"], ["r", "s"], body=body), self.G))
        handed = [("set", "k", ZERO, 0), OUT, ("set", "g.a", num("k"), 0), ("set", "g.b", num("k"), 0)]
        self.assertEqual(told[0][4], handed)
        self.assertEqual(told[0][5], least(num("g.a"), num("g.b"), 1))
        self.assertEqual(told[2][4][:8], handed + [
            ("lose", "r"), ("lose", "s"), ("any", "k"), know(least(num("k"), num("g.a"))),
        ])

    def test_out_is_what_becomes_of_it(self):
        body = [("call", "out", "g", ("x", "x"), ("r", "s")), ("claim", P)]
        told = duties((proc("f", ["x"], ["r", "s"], body=body), self.G))
        self.assertEqual(told[2][4][5:7], [("any", "out"), know(least(num("out"), num("g.a")))])

    def test_names_alike_in_both(self):
        """All names are exchanged at once."""
        g = proc("g", ["x", "y"], ["r", "s"], [least(num("x"), at("r", "y"))], [
            least(num("out"), at("s", "x")), each(("x", 0), ("y", 0), "r", ">=", ("row", "s")),
        ])
        body = [("call", "z", "g", ("y", "x"), ("s", "r")), ("claim", P)]
        told = duties((proc("f", ["x", "y"], ["r", "s"], body=body), g))
        handed = [OUT, ("set", "z", ZERO, 0), ("set", "g.x", num("y"), 0), ("set", "g.y", num("x"), 0)]
        self.assertEqual(told[0][1:], ("need", (0,), 0, handed, least(num("g.x"), at("s", "g.y"))))
        self.assertEqual(told[1][4], handed + [
            ("lose", "s"), ("lose", "r"), ("any", "z"), know(least(num("z"), at("r", "g.x"))),
            know(each(("g.x", 0), ("g.y", 0), "s", ">=", ("row", "r"))),
        ])

    def test_of_itself(self):
        give = least(num("out"), num("x"))
        body = [("call", "k", "f", ("x",), ("r",)), ("set", "out", num("k"), 0)]
        handed = [("set", "k", ZERO, 0), OUT, know(P), ("set", "f.x", num("x"), 0)]
        behind = handed + [("lose", "r"), ("any", "k"), know(least(num("k"), num("f.x"))), body[1]]
        self.told((proc("f", ["x"], ["r"], [P], [give], body),), [
            ("f", "need", (0,), 0, handed, least(num("f.x"), ZERO, 1)), ("f", "give", (), 0, behind, give),
        ])

    def test_twice(self):
        h = proc("h", ["y"], [], [least(num("y"), ZERO)])
        body = [("call", "k", "h", ("x",), ()), ("call", "k", "h", ("k",), ())]
        one = [("set", "k", ZERO, 0), OUT, ("set", "h.y", num("x"), 0)]
        two = one + [("any", "k"), ("set", "h.y", num("k"), 0)]
        need = least(num("h.y"), ZERO)
        expected = [("f", "need", (0,), 0, one, need), ("f", "need", (1,), 0, two, need)]
        self.told((h, proc("f", ["x"], [], body=body)), expected)

    def test_nothing_needed_or_given(self):
        body = [("call", "k", "h", (), ()), ("claim", P)]
        straight = [("set", "k", ZERO, 0), OUT, ("any", "k")]
        self.told((proc("h"), proc("f", ["x"], body=body)), [("f", "claim", (1,), 0, straight, P)])

    def test_for_each_way(self):
        h = proc("h", ["x"], [], [P, Q])
        body = [branch(L, [], [("any", "out")]), ("call", "out", "h", ("x",), ())]
        ways = [[OUT, know(L)], [OUT, know(NOT_L), ("any", "out")]]
        needs = [least(num("h.x"), ZERO, c) for c in (1, 2)]
        expected = []
        for way, k in itertools.product(ways, (0, 1)):
            expected.append(("f", "need", (1,), k, way + [("set", "h.x", num("x"), 0)], needs[k]))
        self.told((h, proc("f", ["x"], body=body)), expected)

    def test_in_bodies(self):
        h = proc("h", ["x"], [], [P])
        call = ("call", "out", "h", ("x",), ())
        body = [loop(L, [], [branch(M, [], [("any", "out"), call])])]
        straight = [know(L), know(NOT_M), ("any", "out"), ("set", "h.x", num("x"), 0)]
        self.told((h, proc("f", ["x"], body=body)), [
            ("f", "need", (0, 0, 0, 1, 1), 0, straight, least(num("h.x"), ZERO, 1)),
        ])


class Programs(Duties):
    def test_none(self):
        self.told((), [])

    def test_procedure_by_procedure(self):
        told = [duty[:4] for duty in duties(FILL)]
        fill = [("enter", (0,), k) for k in range(4)] + [("keep", (0,), k) for k in range(4)]
        fill += [("give", (), 0), ("give", (), 1)]
        top = [("need", (0,), 0), ("need", (1,), 0), ("claim", (3, 0, 0, 0, 0, 0, 0), 0), ("claim", (3, 0, 0, 1, 0), 0)]
        top += [("give", (), k) for way in range(3) for k in (0, 1)]
        self.assertEqual(told, [("fill",) + duty for duty in fill] + [("top",) + duty for duty in top])
        self.told(FILL[::-1], duties(FILL)[10:] + duties(FILL)[:10])

    def test_paths_four_deep(self):
        text = """\
proc f x ; r
  any y
  while x >= 0
    if x >= y
    else
      any y
      while y >= 0
        any y
        any y
        if x >= 1
          any y
        else
          claim x >= 0
        end
      end
    end
  end
back"""
        self.assertEqual([duty[2] for duty in duties(read(text))], [(1, 0, 0, 1, 1, 0, 2, 1, 0)])


class Ways(Duties):
    FORK = branch(P)
    LINE = loop(M, [Q])

    def refused(self, body):
        program = (proc("f", ["x"], body=body),)
        check(program)
        for told in [program, (proc("g"),) + program, program + (proc("g"),)]:
            with self.assertRaises(TooMany) as caught:
                duties(told)
            self.assertIsInstance(caught.exception, OutlineError)

    def sixteen(self):
        return [self.FORK] * 4

    def seventeen(self):
        return [branch(L, self.sixteen(), [])]

    def test_sixteen_and_seventeen(self):
        self.assertEqual(self.short(self.sixteen() + [("claim", P)]), [("claim", (4,), 0)] * 16)
        nine = [branch(L, [branch(M, [self.FORK] * 3, [])], [])]
        self.assertEqual(len(self.short(nine + [("claim", P)])), 10)
        halves = [branch(L, [self.FORK] * 3, [self.FORK] * 3), ("claim", P)]
        self.assertEqual(len(self.short(halves)), 16)
        self.refused(self.seventeen())
        self.refused([self.FORK] * 5)
        self.refused([branch(L, [], self.sixteen())])
        self.refused(halves + [self.FORK])

    def test_the_order_of_sixteen(self):
        program = (proc("f", ["x"], body=self.sixteen() + [("claim", Q)]),)
        ways = [[OUT] + [know(least) for least in way] for way in itertools.product([P, NOT_P], repeat=4)]
        # The if that stands last parts them first: its body's ways are ahead of those of its other body.
        ways = sorted(ways, key=lambda way: [row == know(NOT_P) for row in way[::-1]])
        self.assertEqual([duty[4] for duty in duties(program)], ways)

    def test_in_a_loops_body(self):
        self.assertEqual(len(self.short([loop(L, [P], self.sixteen())])), 1 + 16)
        self.refused([loop(L, [P], self.seventeen())])
        self.refused([loop(L, [], self.seventeen() + [self.LINE])])

    def test_in_an_ifs_bodies(self):
        for body in [(self.sixteen() + [self.LINE], []), ([], self.sixteen() + [self.LINE])]:
            found = self.short([branch(L, *body), ("claim", P)])
            self.assertEqual([duty for duty in found if duty[0] == "claim"], [("claim", (1,), 0)] * 2)
        self.refused([branch(L, self.seventeen() + [self.LINE], [])])
        self.refused([branch(L, [], self.seventeen() + [self.LINE])])
        # Sixteen in each body, one behind each.
        self.assertEqual(len(self.short([branch(L, *[self.sixteen() + [self.LINE]] * 2)])), 2 * 17)

    def test_a_loop_behind_makes_it_one_way(self):
        body = (self.sixteen() + [self.LINE]) * 3 + [("claim", P)]
        self.assertEqual(len(self.short(body)), 3 * 17 + 1)

    def test_whether_any_run_goes_them_or_not(self):
        self.refused([branch(TRUE)] * 5)
        self.refused([("claim", least(ZERO, ZERO, 1))] + [branch(TRUE)] * 5)


if __name__ == "__main__":
    unittest.main()

"""Promise 10: straight rows gone through from a start."""

import copy
import random
import unittest

from outlineward.claims import holds, term_at
from outlineward.stairs import entry, stairs
from outlineward.straight import through
from samples import TRUE, ZERO, at, each, least, num, rise

FAR = 10 ** 18
FALSE = least(ZERO, ZERO, 1)
BARE = (0, ())
STEPPED = (5, ((-3, 1), (0, 7), (4, 2)))


class Through(unittest.TestCase):
    def goes(self, rows, start, numbers, held):
        """Goes through to these numbers and rows, and again when what was told was emptied; nothing is changed."""
        before = copy.deepcopy((rows, start))
        answer = through(rows, start)
        self.assertEqual(answer, ("through", numbers, held))
        self.assertEqual((rows, start), before)
        self.assertIs(type(answer), tuple)
        self.assertIsNot(answer[1], start[0])
        self.assertIsNot(answer[2], start[1])
        answer[1].clear()
        answer[2].clear()
        self.assertEqual((rows, start), before)
        self.assertEqual(through(rows, start), ("through", numbers, held))

    def barred(self, n, rows, start):
        before = copy.deepcopy((rows, start))
        self.assertEqual(through(rows, start), ("barred", n))
        self.assertEqual((rows, start), before)


class Forms(Through):
    def test_no_rows(self):
        self.goes([], ({}, {}, []), {}, {})
        self.goes([], ({"x": 3}, {"r": STEPPED}, [1, 2]), {"x": 3}, {"r": STEPPED})

    def test_set(self):
        numbers = [(num("x"), 3), (num("y"), 0), (ZERO, 0)]
        for term, value in numbers + [(at("r", "x", 1), 2), (at("r", "", -3), 1), (at("s"), 0)]:
            for c in [0, 4, -4, FAR]:
                rows = [("set", "z", term, c)]
                self.goes(rows, ({"x": 3}, {"r": STEPPED}, []), {"x": 3, "z": value + c}, {"r": STEPPED})

    def test_set_of_itself(self):
        self.goes([("set", "x", num("x"), 1)] * 3, ({"x": 3}, {}, []), {"x": 6}, {})
        row = (0, ((3, 9), (9, -4)))
        self.goes([("set", "x", at("r", "x"), 0)] * 2, ({"x": 3}, {"r": row}, []), {"x": -4}, {"r": row})

    def test_put(self):
        rows = [("put", "r", ("x", 1), num("y"), 2)]
        numbers = {"x": 3, "y": 7}
        self.goes(rows, (numbers, {"r": STEPPED}, []), numbers, {"r": (5, ((-3, 1), (0, 7), (4, 9), (5, 2)))})
        rows = [("put", "r", ("", -1), ZERO, 0)]
        self.goes(rows, ({}, {"r": STEPPED}, []), {}, {"r": (5, ((-3, 1), (-1, 0), (0, 7), (4, 2)))})

    def test_put_of_the_row_itself(self):
        rows = [("put", "r", ("", 1), at("r"), 1), ("put", "r", ("", 2), at("r", "", 1), 1)]
        self.goes(rows, ({}, {"r": (3, ())}, []), {}, {"r": (3, ((1, 4), (2, 5), (3, 3)))})

    def test_any(self):
        self.goes([("any", "x"), ("any", "y"), ("any", "x")], ({"x": 1}, {}, [7, 8, 9]), {"x": 9, "y": 8}, {})

    def test_lose(self):
        start = ({}, {"r": STEPPED, "t": (4, ())}, [(1, ()), STEPPED])
        self.goes([("lose", "r"), ("lose", "s")], start, {}, {"r": (1, ()), "s": STEPPED, "t": (4, ())})

    def test_any_and_lose_take_in_order(self):
        rows = [("any", "x"), ("lose", "r"), ("any", "y"), ("lose", "s"), ("any", "z")]
        picks = [1, (2, ()), 3, (4, ((0, 5),)), 6]
        self.goes(rows, ({}, {}, picks), {"x": 1, "y": 3, "z": 6}, {"r": (2, ()), "s": (4, ((0, 5),))})

    def test_know(self):
        self.goes([("know", TRUE), ("know", least(num("x"), ZERO, 3))], ({"x": 3}, {}, []), {"x": 3}, {})
        self.barred(0, [("know", FALSE)], ({}, {}, []))
        self.barred(1, [("know", TRUE), ("know", least(num("x"), ZERO, 4))], ({"x": 3}, {}, []))

    def test_know_looks_at_what_is_then(self):
        rows = [("know", least(num("x"), ZERO, 1)), ("set", "x", ZERO, 0)]
        rows += [("know", least(ZERO, num("x"))), ("set", "x", ZERO, 5)]
        self.goes(rows, ({"x": 1}, {}, []), {"x": 5}, {})
        self.barred(4, rows + [("know", least(ZERO, num("x")))], ({"x": 1}, {}, []))


class Apart(Through):
    def test_what_was_handed_in_is_changed_behind_the_call(self):
        rows = [("any", "x"), ("lose", "r"), ("set", "y", num("z"), 1)]
        start = ({"z": 4}, {"s": STEPPED}, [7, (1, ())])
        answer = through(rows, start)
        rows.clear()
        for thing in start:
            thing.clear()
        self.assertEqual(answer, ("through", {"z": 4, "x": 7, "y": 5}, {"s": STEPPED, "r": (1, ())}))


class Lacking(Through):
    def test_names_and_rows_that_the_start_lacks(self):
        rows = [
            ("know", least(num("x"), ZERO)), ("know", least(ZERO, at("r", "x"))), ("set", "y", num("x"), 1),
            ("set", "z", at("r", "y"), 1), ("put", "s", ("x", 0), num("w"), 3),
            ("know", each(("", -9), ("", 9), "r", "<=")), ("know", rise(("x", 0), ("y", 0), "t")),
        ]
        self.goes(rows, ({}, {}, []), {"y": 1, "z": 1}, {"s": (0, ((0, 3), (1, 0)))})

    def test_picks_that_lack(self):
        rows = [("any", "x"), ("lose", "r"), ("any", "y"), ("lose", "s")]
        old = ({"x": 5, "y": 6}, {"r": STEPPED, "s": STEPPED})
        self.goes(rows, old + ([],), {"x": 0, "y": 0}, {"r": BARE, "s": BARE})
        self.goes(rows, old + ([3],), {"x": 3, "y": 0}, {"r": BARE, "s": BARE})
        self.goes(rows, old + ([3, (1, ())],), {"x": 3, "y": 0}, {"r": (1, ()), "s": BARE})
        self.goes(rows, old + ([3, (1, ()), 4],), {"x": 3, "y": 4}, {"r": (1, ()), "s": BARE})

    def test_picks_left_over(self):
        self.goes([("any", "x")], ({}, {}, [3, 4, (5, ())]), {"x": 3}, {})
        self.goes([("set", "x", ZERO, 1)], ({}, {}, [3, 4]), {"x": 1}, {})

    def test_told_are_the_starts_names_and_what_was_written(self):
        rows = [("know", least(ZERO, num("a"))), ("set", "b", num("c"), 0)]
        rows += [("know", rise(("d", 0), ("e", 0), "p")), ("set", "f", at("q", "g"), 0)]
        self.goes(rows, ({"h": 1}, {"o": (1, ())}, []), {"h": 1, "b": 0, "f": 0}, {"o": (1, ())})
        rows = [("put", "p", ("a", 0), ZERO, 0), ("any", "b"), ("lose", "q")]
        self.goes(rows, ({"h": 1}, {}, []), {"h": 1, "b": 0}, {"p": BARE, "q": BARE})


class Together(Through):
    def test_put_by_a_place_that_an_any_gave(self):
        rows = [("any", "x"), ("put", "r", ("x", 1), num("x"), 0), ("set", "y", at("r", "x", 1), 0)]
        for x in [-FAR, -4, 0, 3, FAR]:
            self.goes(rows, ({}, {}, [x]), {"x": x, "y": x}, {"r": stairs(0, [(x + 1, x), (x + 2, 0)])})

    def test_lose_of_a_row_that_was_written(self):
        known = each(("", -5), ("", 5), "r", "<=", ZERO, 4)
        rows = [("put", "r", ("", 0), ZERO, 9), ("lose", "r"), ("know", known), ("put", "r", ("", 1), at("r"), 1)]
        self.goes(rows, ({}, {}, [(4, ())]), {}, {"r": (4, ((1, 5), (2, 4)))})
        self.goes(rows, ({}, {}, []), {}, {"r": (0, ((1, 1), (2, 0)))})
        self.barred(2, rows, ({}, {}, [(5, ())]))

    def test_the_first_of_several_untrue_claims(self):
        rows = [("know", TRUE), ("any", "x"), ("know", least(num("x"), ZERO)), ("know", FALSE), ("know", FALSE)]
        self.barred(2, rows, ({}, {}, [-1]))
        self.barred(3, rows, ({}, {}, [1]))

    def test_each_and_rise_with_ends_far_apart(self):
        low, high = ("", -FAR), ("x", FAR)
        rows = [("know", each(low, high, "r", ">=", num("y"), 2)), ("know", rise(low, high, "r"))]
        start = ({"x": FAR, "y": -1}, {"r": (1, ((0, 2), (2 * FAR, 3)))}, [])
        self.goes(rows, start, start[0], start[1])
        self.barred(0, rows, ({"x": FAR}, start[1], []))
        self.barred(1, rows, ({"x": FAR, "y": -1}, {"r": (1, ((0, 2), (2 * FAR, 1)))}, []))
        beyond = {"r": (1, ((0, 2), (2 * FAR + 1, 1)))}
        self.goes(rows, (start[0], beyond, []), start[0], beyond)
        against = [("know", each(("", -FAR), ("", FAR), "r", "<=", ("row", "s"), 1))]
        self.goes(against, ({}, {"r": (1, ())}, []), {}, {"r": (1, ())})
        self.barred(0, against, ({}, {"r": (1, ((FAR, 2),))}, []))

    def test_names_with_a_point_between(self):
        rows = [("set", "f.y", num("x"), 1), ("know", least(num("f.y"), ZERO, 4))]
        self.goes(rows, ({"x": 3}, {}, []), {"x": 3, "f.y": 4}, {})
        self.barred(1, rows, ({"x": 2, "f.y": 9}, {}, []))

    def test_sixty_rows_that_grow(self):
        rows = [("set", "x", num("x"), FAR)] * 59 + [("put", "r", ("x", FAR), num("x"), FAR)]
        self.goes(rows, ({}, {}, []), {"x": 59 * FAR}, {"r": stairs(0, [(60 * FAR, 60 * FAR), (60 * FAR + 1, 0)])})

    def test_place_by_place(self):
        """Rows as dicts of a few places, gone through once more."""
        chance = random.Random(6)
        ends = {"through": 0, "barred": 0}
        for again in range(1500):
            rows = [self.some_row(chance) for row in range(chance.randint(0, 8))]
            start = (
                {x: chance.randint(-2, 2) for x in chance.sample("xyz", 2)},
                {r: self.some_stairs(chance) for r in chance.sample("rs", 1)},
                [],
            )
            for row in rows[:chance.randint(0, 9)]:
                if row[0] in ("any", "lose"):
                    start[2].append(chance.randint(-2, 2) if row[0] == "any" else self.some_stairs(chance))
            told = self.plain(rows, start)
            if told[0] == "barred":
                self.barred(told[1], rows, start)
            else:
                self.goes(rows, start, told[1], told[2])
            ends[told[0]] += 1
        self.assertGreater(min(ends.values()), 200)

    def some_stairs(self, chance):
        return stairs(chance.randint(-2, 2), [(p, chance.randint(-2, 2)) for p in chance.sample(range(-3, 4), 2)])

    def some_term(self, chance):
        return chance.choice([ZERO, num(chance.choice("xyz")), ("at", chance.choice("rs"), self.some_place(chance))])

    def some_place(self, chance):
        return (chance.choice(["", "x", "y"]), chance.randint(-1, 1))

    def some_row(self, chance):
        kind = chance.choice(["set", "put", "any", "lose", "know"])
        if kind == "set":
            return ("set", chance.choice("xyz"), self.some_term(chance), chance.randint(-1, 1))
        if kind == "put":
            place, term = self.some_place(chance), self.some_term(chance)
            return ("put", chance.choice("rs"), place, term, chance.randint(-1, 1))
        if kind == "know":
            return ("know", least(self.some_term(chance), self.some_term(chance), chance.randint(-3, 1)))
        return (kind, chance.choice("xyz" if kind == "any" else "rs"))

    def plain(self, rows, start):
        numbers, held, picks = dict(start[0]), dict(start[1]), list(start[2])
        for n, row in enumerate(rows):
            if row[0] == "know" and not holds(row[1], numbers, held):
                return ("barred", n)
            if row[0] == "set":
                numbers[row[1]] = term_at(row[2], numbers, held) + row[3]
            if row[0] == "put":
                place = numbers.get(row[2][0], 0) + row[2][1]
                value = term_at(row[3], numbers, held) + row[4]
                old = held.get(row[1], BARE)
                held[row[1]] = stairs(old[0], [(p, value if p == place else entry(old, p)) for p in range(-30, 31)])
            if row[0] == "any":
                numbers[row[1]] = picks.pop(0) if picks else 0
            if row[0] == "lose":
                held[row[1]] = picks.pop(0) if picks else BARE
        return ("through", numbers, held)


if __name__ == "__main__":
    unittest.main()

"""Promise 5: places, terms, claims held and turned; promise 16: claims said of other names."""

import itertools
import unittest

from outlineward.claims import holds, place_at, said, term_at, turned
from outlineward.stairs import entry, stairs

FAR = 10 ** 18
ZERO = ("is", "")


def least(a, b, c):
    return ("least", a, b, c)


def small_rows():
    """Rows with base 0 and any of the values 0, 1 (or no step) at -1, 0, 1, 2."""
    made = []
    for values in itertools.product([None, 0, 1], repeat=4):
        made.append(stairs(0, [(at - 1, value) for at, value in enumerate(values) if value is not None]))
    return made


class Held(unittest.TestCase):
    def true(self, claim, numbers, rows):
        self.assertIs(holds(claim, numbers, rows), True, (claim, numbers, rows))

    def untrue(self, claim, numbers, rows):
        self.assertIs(holds(claim, numbers, rows), False, (claim, numbers, rows))


class Places(unittest.TestCase):
    def test_name_and_more(self):
        self.assertEqual(place_at(("x", 0), {"x": 7}), 7)
        self.assertEqual(place_at(("x", 3), {"x": 7, "y": 1}), 10)
        self.assertEqual(place_at(("x", -9), {"x": 7}), -2)

    def test_no_name(self):
        self.assertEqual(place_at(("", 5), {"x": 7}), 5)
        self.assertEqual(place_at(("", -5), {}), -5)
        self.assertEqual(place_at(("", 0), {}), 0)

    def test_name_that_lacks(self):
        self.assertEqual(place_at(("y", 4), {"x": 7}), 4)
        self.assertEqual(place_at(("y", 0), {}), 0)

    def test_far(self):
        self.assertEqual(place_at(("x", FAR), {"x": FAR}), 2 * FAR)
        self.assertEqual(place_at(("x", -FAR), {"x": -FAR}), -2 * FAR)


class Terms(unittest.TestCase):
    def test_number(self):
        self.assertEqual(term_at(("is", "x"), {"x": -3}, {}), -3)
        self.assertEqual(term_at(("is", "y"), {"x": -3}, {"y": (4, ())}), 0)

    def test_nought(self):
        self.assertEqual(term_at(ZERO, {"x": -3}, {"r": (4, ())}), 0)

    def test_entry_at_a_name(self):
        rows = {"r": (4, ((2, 6), (3, 9))), "s": (1, ())}
        told = [term_at(("at", "r", ("x", d)), {"x": 2}, rows) for d in [-1, 0, 1]]
        self.assertEqual(told, [4, 6, 9])
        self.assertEqual(term_at(("at", "s", ("x", 0)), {"x": 2}, rows), 1)

    def test_entry_at_a_place_without_name(self):
        rows = {"r": (4, ((-2, 6),))}
        self.assertEqual(term_at(("at", "r", ("", -3)), {"x": 2}, rows), 4)
        self.assertEqual(term_at(("at", "r", ("", -2)), {"x": 2}, rows), 6)

    def test_what_lacks(self):
        rows = {"r": (4, ((0, 6),))}
        self.assertEqual(term_at(("at", "r", ("y", 0)), {}, rows), 6)
        self.assertEqual(term_at(("at", "r", ("y", -1)), {}, rows), 4)
        self.assertEqual(term_at(("at", "s", ("x", 0)), {"s": 5}, rows), 0)
        self.assertEqual(term_at(("at", "s", ("", -8)), {}, {}), 0)


class Leasts(Held):
    def test_just_true_and_just_untrue(self):
        a, b = ("is", "x"), ("is", "y")
        for c in [-4, -1, 0, 1, 4, FAR, -FAR]:
            self.true(least(a, b, c), {"x": 10 + c, "y": 10}, {})
            self.true(least(a, b, c), {"x": 11 + c, "y": 10}, {})
            self.untrue(least(a, b, c), {"x": 9 + c, "y": 10}, {})

    def test_against_nought(self):
        self.true(least(("is", "x"), ZERO, 3), {"x": 3}, {})
        self.untrue(least(("is", "x"), ZERO, 3), {"x": 2}, {})
        self.true(least(ZERO, ("is", "x"), 3), {"x": -3}, {})
        self.untrue(least(ZERO, ("is", "x"), 3), {"x": -2}, {})
        self.true(least(ZERO, ZERO, 0), {}, {})
        self.untrue(least(ZERO, ZERO, 1), {}, {})

    def test_entries(self):
        rows = {"r": (4, ((2, 6),)), "s": (1, ((5, 8),))}
        a, b = ("at", "r", ("x", 1)), ("at", "s", ("", 4))
        self.true(least(a, b, 5), {"x": 1}, rows)
        self.untrue(least(a, b, 6), {"x": 1}, rows)
        self.true(least(a, b, 3), {"x": 0}, rows)
        self.untrue(least(a, b, 4), {"x": 0}, rows)

    def test_what_lacks(self):
        self.true(least(("is", "x"), ("is", "y"), 0), {}, {})
        self.untrue(least(("is", "x"), ("is", "y"), 1), {}, {})
        self.true(least(("at", "r", ("x", 3)), ZERO, 0), {}, {})
        self.untrue(least(("at", "r", ("x", 3)), ZERO, 1), {}, {})

    def test_far(self):
        self.true(least(("is", "x"), ("is", "y"), 2 * FAR), {"x": FAR, "y": -FAR}, {})
        self.untrue(least(("is", "x"), ("is", "y"), 2 * FAR + 1), {"x": FAR, "y": -FAR}, {})


class Eaches(Held):
    def each(self, t, u, way, b, c, r="r"):
        return ("each", ("", t), ("", u), r, way, b, c)

    def test_against_a_number(self):
        rows = {"r": (9, ((0, 4), (5, 9)))}
        for b, numbers in [(ZERO, {"y": 50}), (("is", "y"), {"y": 3}), (("is", "y"), {}), (("is", "y"), {"y": -7})]:
            own = 0 if b == ZERO else numbers.get("y", 0)
            self.true(self.each(0, 4, ">=", b, 4 - own), numbers, rows)
            self.untrue(self.each(0, 4, ">=", b, 5 - own), numbers, rows)
            self.true(self.each(0, 4, "<=", b, 4 - own), numbers, rows)
            self.untrue(self.each(0, 4, "<=", b, 3 - own), numbers, rows)

    def test_both_ends_are_counted_in(self):
        rows = {"r": (0, ((0, 4), (5, 0)))}
        self.true(self.each(0, 4, ">=", ZERO, 4), {}, rows)
        self.untrue(self.each(-1, 4, ">=", ZERO, 4), {}, rows)
        self.untrue(self.each(0, 5, ">=", ZERO, 4), {}, rows)
        self.true(self.each(-3, -1, "<=", ZERO, 3), {}, rows)
        self.untrue(self.each(-3, 0, "<=", ZERO, 3), {}, rows)
        self.true(self.each(5, 8, "<=", ZERO, 3), {}, rows)
        self.untrue(self.each(4, 8, "<=", ZERO, 3), {}, rows)

    def test_a_run_within_the_reach(self):
        for row, way in [((0, ((3, -1), (4, 0))), ">="), ((0, ((3, 1), (4, 0))), "<=")]:
            for t, u in [(0, 9), (3, 3), (3, 9), (0, 3)]:
                self.untrue(self.each(t, u, way, ZERO, 0), {}, {"r": row})
            for t, u in [(0, 2), (4, 9), (4, 4), (2, 2)]:
                self.true(self.each(t, u, way, ZERO, 0), {}, {"r": row})

    def test_one_place(self):
        rows = {"r": (2, ())}
        self.true(self.each(7, 7, ">=", ZERO, 2), {}, rows)
        self.untrue(self.each(7, 7, ">=", ZERO, 3), {}, rows)

    def test_against_another_row(self):
        rows = {"r": (0, ((0, 5), (10, 7))), "s": (0, ((0, 2), (4, 3), (8, 1)))}
        self.true(self.each(0, 9, ">=", ("row", "s"), 2), {}, rows)
        self.untrue(self.each(0, 9, ">=", ("row", "s"), 3), {}, rows)
        self.true(self.each(0, 3, ">=", ("row", "s"), 3), {}, rows)
        self.untrue(self.each(0, 4, ">=", ("row", "s"), 3), {}, rows)
        self.true(self.each(0, 7, "<=", ("row", "s"), 3), {}, rows)
        self.untrue(self.each(0, 8, "<=", ("row", "s"), 3), {}, rows)
        self.untrue(self.each(7, 8, ">=", ("row", "s"), 3), {}, rows)
        self.true(self.each(8, 9, ">=", ("row", "s"), 4), {}, rows)
        self.true(self.each(8, 10, "<=", ("row", "s"), 6), {}, rows)
        self.untrue(self.each(8, 10, "<=", ("row", "s"), 5), {}, rows)

    def test_against_the_same_row(self):
        rows = {"r": (0, ((0, 5), (10, 7)))}
        self.true(self.each(-5, 20, ">=", ("row", "r"), 0), {}, rows)
        self.untrue(self.each(-5, 20, ">=", ("row", "r"), 1), {}, rows)
        self.true(self.each(-5, 20, "<=", ("row", "r"), 0), {}, rows)
        self.untrue(self.each(-5, 20, "<=", ("row", "r"), -1), {}, rows)

    def test_rows_that_lack(self):
        self.true(self.each(-5, 5, ">=", ZERO, 0), {}, {})
        self.untrue(self.each(-5, 5, ">=", ZERO, 1), {"r": 9}, {})
        rows = {"r": (0, ((3, 2),))}
        self.true(self.each(3, 5, ">=", ("row", "s"), 2), {"s": 9}, rows)
        self.untrue(self.each(2, 5, ">=", ("row", "s"), 2), {}, rows)
        self.true(self.each(0, 2, ">=", ("row", "r"), 0, r="s"), {}, rows)
        self.untrue(self.each(0, 3, ">=", ("row", "r"), 0, r="s"), {}, rows)

    def test_reach_by_names(self):
        claim = ("each", ("i", 1), ("n", -1), "r", ">=", ("is", "y"), 0)
        rows = {"r": (0, ((1, 4), (6, 0)))}
        self.true(claim, {"i": 0, "n": 6, "y": 4}, rows)
        self.untrue(claim, {"i": -1, "n": 6, "y": 4}, rows)
        self.untrue(claim, {"i": 0, "n": 7, "y": 4}, rows)
        self.untrue(claim, {"i": 0, "n": 6, "y": 5}, rows)
        self.true(claim, {"n": 6}, rows)
        self.true(claim, {"i": 8, "y": 4}, rows)

    def test_u_less_than_t(self):
        for t, u in [(0, -1), (5, -5), (FAR, -FAR)]:
            for way, c in [(">=", FAR), ("<=", -FAR)]:
                for b in [ZERO, ("row", "r"), ("row", "s")]:
                    self.true(self.each(t, u, way, b, c), {}, {"r": (1, ((-2, 0), (2, 3)))})

    def test_far_apart(self):
        rows = {"r": (1, ((FAR, 0), (FAR + 1, 1))), "s": (0, ((0, 1), (1, 0)))}
        self.true(self.each(0, FAR - 1, ">=", ZERO, 1), {}, rows)
        self.untrue(self.each(0, FAR, ">=", ZERO, 1), {}, rows)
        self.untrue(self.each(-FAR, 2 * FAR, ">=", ZERO, 1), {}, rows)
        self.true(self.each(FAR + 1, 3 * FAR, ">=", ZERO, 1), {}, rows)
        self.true(self.each(-FAR, -1, ">=", ("row", "s"), 1), {}, rows)
        self.untrue(self.each(-FAR, FAR, ">=", ("row", "s"), 1), {}, rows)

    def test_forty_steps(self):
        row = stairs(0, [(k * (FAR // 40), k) for k in range(1, 41)])
        self.true(self.each(FAR // 40, 2 * FAR, ">=", ZERO, 1), {}, {"r": row})
        self.untrue(self.each(FAR // 40 - 1, 2 * FAR, ">=", ZERO, 1), {}, {"r": row})
        self.true(self.each(-FAR, FAR - 1, "<=", ZERO, 39), {}, {"r": row})
        self.untrue(self.each(-FAR, FAR, "<=", ZERO, 39), {}, {"r": row})

    def test_place_by_place(self):
        rows = small_rows()
        others = [stairs(0, [(0, 1)]), stairs(1, [(1, 0), (2, 1)])]
        for row, s in itertools.product(rows, others):
            for t, u in itertools.product(range(-2, 4), repeat=2):
                for b, c in itertools.product([ZERO, ("row", "s")], [0, 1]):
                    bounds = [(entry(s, k) if b[0] == "row" else 0) + c for k in range(t, u + 1)]
                    told = [entry(row, k) for k in range(t, u + 1)]
                    both = {"r": row, "s": s}
                    up = all(value >= bound for value, bound in zip(told, bounds))
                    down = all(value <= bound for value, bound in zip(told, bounds))
                    self.assertIs(holds(self.each(t, u, ">=", b, c), {}, both), up)
                    self.assertIs(holds(self.each(t, u, "<=", b, c), {}, both), down)


class Rises(Held):
    def rise(self, t, u):
        return ("rise", ("", t), ("", u), "r")

    def test_up_and_stay(self):
        self.true(self.rise(-5, 9), {}, {"r": (0, ((0, 1), (4, 3)))})
        self.true(self.rise(-5, 9), {}, {"r": (7, ())})
        self.true(self.rise(-5, 9), {}, {})

    def test_down_in_the_reach_at_its_ends_and_beyond(self):
        rows = {"r": (0, ((0, 5), (4, 3), (6, 9)))}
        for t, u in [(3, 4), (-9, 4), (0, 4), (3, 20), (-9, 20)]:
            self.untrue(self.rise(t, u), {}, rows)
        for t, u in [(3, 3), (4, 4), (-9, 3), (4, 20), (0, 3), (5, 6)]:
            self.true(self.rise(t, u), {}, rows)

    def test_down_from_the_base(self):
        rows = {"r": (2, ((0, 1),))}
        self.untrue(self.rise(-1, 0), {}, rows)
        self.true(self.rise(-9, -1), {}, rows)
        self.true(self.rise(0, 9), {}, rows)

    def test_down_and_up_again(self):
        rows = {"r": (0, ((0, 5), (4, 3), (5, 5)))}
        self.untrue(self.rise(0, 9), {}, rows)
        self.true(self.rise(4, 9), {}, rows)

    def test_u_less_than_t(self):
        rows = {"r": (9, ((0, 5), (4, 3)))}
        for t, u in [(4, 3), (9, -9), (FAR, -FAR)]:
            self.true(self.rise(t, u), {}, rows)

    def test_reach_by_names(self):
        claim = ("rise", ("i", 0), ("n", -1), "r")
        rows = {"r": (0, ((0, 5), (4, 3)))}
        self.true(claim, {"i": -3, "n": 4}, rows)
        self.untrue(claim, {"i": -3, "n": 5}, rows)
        self.true(claim, {"i": 4, "n": 5}, rows)
        self.untrue(claim, {"n": 5}, rows)
        self.true(claim, {"i": 3}, rows)

    def test_far_apart(self):
        rows = {"r": (0, ((-FAR, 1), (FAR, 0)))}
        self.true(self.rise(-2 * FAR, FAR - 1), {}, rows)
        self.untrue(self.rise(-FAR, FAR), {}, rows)
        self.untrue(self.rise(0, FAR), {}, rows)
        self.true(self.rise(0, FAR - 1), {}, rows)

    def test_place_by_place(self):
        for row in small_rows():
            for t, u in itertools.product(range(-2, 4), repeat=2):
                told = [entry(row, k) for k in range(t, u + 1)]
                rising = all(k <= l for k, l in itertools.combinations(told, 2))
                self.assertIs(holds(self.rise(t, u), {}, {"r": row}), rising)


class Turned(unittest.TestCase):
    TERMS = [ZERO, ("is", "x"), ("is", "y"), ("at", "r", ("x", -1)), ("at", "s", ("", 2))]

    def test_form(self):
        a, b = ("is", "x"), ("at", "r", ("y", 2))
        self.assertEqual(turned(least(a, b, 5)), least(b, a, -4))
        self.assertEqual(turned(least(b, a, 0)), least(a, b, 1))
        self.assertEqual(turned(least(a, ZERO, -FAR)), least(ZERO, a, FAR + 1))

    def test_turned_again(self):
        for a, b in itertools.product(self.TERMS, repeat=2):
            for c in [-FAR, -2, 0, 1, 3, FAR, FAR + 1]:
                self.assertEqual(turned(turned(least(a, b, c))), least(a, b, c))

    def test_true_just_where_it_is_not(self):
        rows = {"r": (1, ((0, 3),)), "s": (-2, ((2, 2),))}
        for a, b in itertools.product(self.TERMS, repeat=2):
            for c, x, y in itertools.product(range(-3, 4), [-1, 0, 1, 2], [0, 3]):
                claim = least(a, b, c)
                numbers = {"x": x, "y": y}
                self.assertIs(holds(turned(claim), numbers, rows), not holds(claim, numbers, rows))


class Said(unittest.TestCase):
    SWAP = {"x": "y", "y": "x", "r": "s", "s": "r"}

    def test_least(self):
        claim = least(("is", "x"), ("is", "y"), 3)
        self.assertEqual(said(claim, self.SWAP), least(("is", "y"), ("is", "x"), 3))
        claim = least(("at", "r", ("x", 1)), ("at", "s", ("y", -2)), 0)
        told = least(("at", "s", ("y", 1)), ("at", "r", ("x", -2)), 0)
        self.assertEqual(said(claim, self.SWAP), told)

    def test_each(self):
        claim = ("each", ("x", 1), ("y", -1), "r", ">=", ("row", "s"), 4)
        told = ("each", ("y", 1), ("x", -1), "s", ">=", ("row", "r"), 4)
        self.assertEqual(said(claim, self.SWAP), told)
        claim = ("each", ("x", 0), ("z", 0), "s", "<=", ("is", "y"), -4)
        told = ("each", ("y", 0), ("z", 0), "r", "<=", ("is", "x"), -4)
        self.assertEqual(said(claim, self.SWAP), told)

    def test_rise(self):
        claim = ("rise", ("x", 1), ("y", -1), "r")
        self.assertEqual(said(claim, self.SWAP), ("rise", ("y", 1), ("x", -1), "s"))

    def test_at_once_along_a_chain(self):
        names = {"x": "y", "y": "z", "z": "x", "r": "s", "s": "q"}
        claim = least(("at", "r", ("x", 0)), ("at", "s", ("y", 0)), 1)
        self.assertEqual(said(claim, names), least(("at", "s", ("y", 0)), ("at", "q", ("z", 0)), 1))
        claim = ("each", ("x", 0), ("y", 0), "r", "<=", ("is", "z"), 1)
        self.assertEqual(said(claim, names), ("each", ("y", 0), ("z", 0), "s", "<=", ("is", "x"), 1))
        claim = ("rise", ("y", 0), ("z", 0), "s")
        self.assertEqual(said(claim, names), ("rise", ("z", 0), ("x", 0), "q"))

    def test_names_not_told_of_stay(self):
        claims = [
            least(("is", "x"), ("at", "r", ("y", 2)), 3),
            ("each", ("x", 1), ("y", 2), "r", ">=", ("row", "s"), 4),
            ("each", ("x", 1), ("y", 2), "r", "<=", ("is", "z"), 4),
            ("rise", ("x", 1), ("y", 2), "r"),
        ]
        for claim in claims:
            self.assertEqual(said(claim, {}), claim)
            self.assertEqual(said(claim, {"q": "x", "w": "r"}), claim)

    def test_no_name_stays(self):
        claims = [
            least(ZERO, ("at", "r", ("", 2)), 3),
            ("each", ("", 1), ("", 2), "r", ">=", ZERO, 4),
            ("rise", ("", 1), ("", 2), "r"),
        ]
        for claim in claims:
            self.assertEqual(said(claim, {"x": "y"}), claim)
            self.assertEqual(said(claim, {"": "y"}), claim)

    def test_words_of_the_form_are_no_names(self):
        names = {"is": "a", "at": "b", "row": "c", "least": "d", "each": "e", "rise": "f"}
        claims = [
            least(("is", "x"), ("at", "r", ("y", 2)), 3),
            ("each", ("x", 1), ("y", 2), "r", ">=", ("row", "s"), 4),
            ("rise", ("x", 1), ("y", 2), "r"),
        ]
        for claim in claims:
            self.assertEqual(said(claim, names), claim)

    def test_names_with_a_point(self):
        claim = least(("is", "out"), ("is", "n"), 1)
        self.assertEqual(said(claim, {"n": "f.n", "out": "x"}), least(("is", "x"), ("is", "f.n"), 1))

    def test_two_names_become_one(self):
        claim = least(("is", "x"), ("is", "y"), 1)
        self.assertEqual(said(claim, {"x": "z", "y": "z"}), least(("is", "z"), ("is", "z"), 1))


class NothingChanged(unittest.TestCase):
    def test_dicts_handed_in_stay(self):
        numbers, rows, names = {"x": 1}, {"r": (0, ((2, 3),))}, {"x": "y"}
        claims = [
            least(("is", "q"), ("at", "w", ("v", 2)), 0),
            ("each", ("q", 1), ("v", 2), "w", ">=", ("row", "s"), 0),
            ("rise", ("q", 1), ("v", 2), "w"),
        ]
        for claim in claims:
            first = (holds(claim, numbers, rows), said(claim, names))
            self.assertEqual(first, (holds(claim, numbers, rows), said(claim, names)))
        self.assertEqual((numbers, rows, names), ({"x": 1}, {"r": (0, ((2, 3),))}, {"x": "y"}))

    def test_answers_follow_what_is_handed_in(self):
        numbers, rows = {"x": 1}, {"r": (0, ())}
        claim = least(("is", "x"), ("at", "r", ("", 0)), 1)
        self.assertIs(holds(claim, numbers, rows), True)
        numbers["x"] = 0
        self.assertIs(holds(claim, numbers, rows), False)
        rows["r"] = (-1, ())
        self.assertIs(holds(claim, numbers, rows), True)
        self.assertIs(holds(claim, {"x": 1}, {"r": (0, ())}), True)


if __name__ == "__main__":
    unittest.main()

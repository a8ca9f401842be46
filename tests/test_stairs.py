"""Promise 4: rows told as stairs, how they are made, one place written."""

import itertools
import unittest

from outlineward.stairs import entry, stairs, written

FAR = 10 ** 18
STEPPED = (5, ((-3, 1), (0, 7), (4, 2)))


def small_rows():
    """All rows with base 0 or 1 and any of the values 0, 1, 2 (or no step) at -1, 0, 1, 2."""
    made = []
    for base in [0, 1]:
        for values in itertools.product([None, 0, 1, 2], repeat=4):
            pairs = [(place - 1, value) for place, value in enumerate(values) if value is not None]
            made.append((base, pairs))
    return made


def plain_entry(base, pairs, p):
    """What stands at p, told place by place from pairs in any order."""
    best = None
    value = base
    for place, told in pairs:
        if place <= p and (best is None or place > best):
            best = place
            value = told
    return value


class Made(unittest.TestCase):
    def test_no_pairs(self):
        self.assertEqual(stairs(0, []), (0, ()))
        self.assertEqual(stairs(-4, []), (-4, ()))

    def test_ordinary(self):
        self.assertEqual(stairs(5, [(-3, 1), (0, 7), (4, 2)]), STEPPED)

    def test_any_order(self):
        for pairs in itertools.permutations([(-3, 1), (0, 7), (4, 2)]):
            self.assertEqual(stairs(5, list(pairs)), STEPPED)

    def test_value_that_stands_ahead_is_no_step(self):
        self.assertEqual(stairs(5, [(0, 5)]), (5, ()))
        self.assertEqual(stairs(5, [(0, 5), (1, 6), (2, 6), (3, 6), (4, 5), (9, 5)]), (5, ((1, 6), (4, 5))))

    def test_value_ahead_is_judged_by_place_not_by_order(self):
        self.assertEqual(stairs(0, [(2, 1), (1, 1)]), (0, ((1, 1),)))
        self.assertEqual(stairs(0, [(2, 0), (1, 1)]), (0, ((1, 1), (2, 0))))

    def test_kinds(self):
        row = stairs(1, [(2, 3)])
        self.assertIs(type(row), tuple)
        self.assertIs(type(row[1]), tuple)
        self.assertIs(type(row[1][0]), tuple)

    def test_list_handed_in_stays(self):
        pairs = [(4, 2), (-3, 1), (0, 7), (9, 2)]
        row = stairs(5, pairs)
        self.assertEqual(pairs, [(4, 2), (-3, 1), (0, 7), (9, 2)])
        pairs.append((20, 0))
        pairs[0] = (1, 1)
        self.assertEqual(row, STEPPED)
        self.assertEqual(stairs(5, [(4, 2), (-3, 1), (0, 7), (9, 2)]), STEPPED)

    def test_forty_steps_and_far_places(self):
        pairs = [((k - 20) * (FAR // 20), (-1) ** k * (FAR + k)) for k in range(41)]
        self.assertEqual(stairs(0, pairs[::-1]), (0, tuple(pairs)))
        self.assertEqual(stairs(-FAR, [(FAR, FAR), (-FAR, -FAR)]), (-FAR, ((FAR, FAR),)))
        self.assertEqual(stairs(0, [(10 * FAR, -9 * FAR)]), (0, ((10 * FAR, -9 * FAR),)))

    def test_equal_just_where_they_hold_the_same(self):
        seen = {}
        for base, pairs in small_rows():
            holding = (base, tuple(plain_entry(base, pairs, p) for p in range(-3, 5)))
            row = stairs(base, pairs)
            self.assertEqual(seen.setdefault(holding, row), row)
        self.assertEqual(len(set(seen.values())), len(seen))


class Entries(unittest.TestCase):
    def test_ordinary(self):
        told = [entry(STEPPED, p) for p in range(-5, 7)]
        self.assertEqual(told, [5, 5, 1, 1, 1, 7, 7, 7, 7, 2, 2, 2])

    def test_no_steps(self):
        for p in [-FAR, -1, 0, 1, FAR]:
            self.assertEqual(entry((3, ()), p), 3)

    def test_far_places(self):
        row = (1, ((-FAR, 2), (FAR, 3)))
        places = [-2 * FAR, -FAR - 1, -FAR, 0, FAR - 1, FAR, 2 * FAR]
        self.assertEqual([entry(row, p) for p in places], [1, 1, 2, 2, 2, 3, 3])

    def test_forty_steps(self):
        row = stairs(-1, [(3 * k, k) for k in range(40)])
        for p in range(-3, 130):
            self.assertEqual(entry(row, p), max(-1, min(p // 3, 39)))

    def test_place_by_place(self):
        for base, pairs in small_rows():
            row = stairs(base, pairs)
            for p in range(-3, 5):
                self.assertEqual(entry(row, p), plain_entry(base, pairs, p))


class Written(unittest.TestCase):
    def test_at_a_steps_place(self):
        self.assertEqual(written(STEPPED, 0, 9), (5, ((-3, 1), (0, 9), (1, 7), (4, 2))))

    def test_at_a_steps_place_the_value_ahead(self):
        self.assertEqual(written(STEPPED, 0, 1), (5, ((-3, 1), (1, 7), (4, 2))))
        self.assertEqual(written(STEPPED, -3, 5), (5, ((-2, 1), (0, 7), (4, 2))))

    def test_right_ahead_of_a_step(self):
        self.assertEqual(written(STEPPED, 3, 9), (5, ((-3, 1), (0, 7), (3, 9), (4, 2))))
        self.assertEqual(written(STEPPED, 3, 2), (5, ((-3, 1), (0, 7), (3, 2))))

    def test_right_behind_a_step(self):
        self.assertEqual(written(STEPPED, 1, 9), (5, ((-3, 1), (0, 7), (1, 9), (2, 7), (4, 2))))

    def test_between_two_steps_side_by_side(self):
        row = (0, ((0, 1), (1, 2), (2, 3)))
        self.assertEqual(written(row, 1, 1), (0, ((0, 1), (2, 3))))
        self.assertEqual(written(row, 1, 3), (0, ((0, 1), (1, 3))))
        self.assertEqual(written((0, ((0, 1), (1, 0))), 0, 0), (0, ()))

    def test_ahead_of_the_first_step(self):
        self.assertEqual(written(STEPPED, -9, 4), (5, ((-9, 4), (-8, 5), (-3, 1), (0, 7), (4, 2))))
        self.assertEqual(written(STEPPED, -4, 1), (5, ((-4, 1), (0, 7), (4, 2))))

    def test_behind_the_last_step(self):
        self.assertEqual(written(STEPPED, 9, 4), (5, ((-3, 1), (0, 7), (4, 2), (9, 4), (10, 2))))

    def test_the_value_that_stands_there(self):
        for p in range(-6, 8):
            self.assertEqual(written(STEPPED, p, entry(STEPPED, p)), STEPPED)

    def test_no_steps(self):
        self.assertEqual(written((0, ()), -1, 3), (0, ((-1, 3), (0, 0))))
        self.assertEqual(written((0, ()), -1, 0), (0, ()))

    def test_far(self):
        self.assertEqual(written((0, ()), FAR, -FAR), (0, ((FAR, -FAR), (FAR + 1, 0))))
        self.assertEqual(written((0, ((-FAR, 1),)), -FAR, 0), (0, ((-FAR + 1, 1),)))

    def test_written_again_and_back(self):
        row = STEPPED
        for p in range(-50, 50):
            row = written(row, p, p * p)
        self.assertEqual([entry(row, p) for p in range(-50, 50)], [p * p for p in range(-50, 50)])
        for p in range(-50, 50):
            row = written(row, p, entry(STEPPED, p))
        self.assertEqual(row, STEPPED)

    def test_place_by_place(self):
        for base, pairs in small_rows():
            row = stairs(base, pairs)
            for p in range(-3, 5):
                for v in [0, 1, 3]:
                    new = written(row, p, v)
                    self.assertEqual(new, stairs(new[0], list(new[1])))
                    told = [entry(new, k) for k in range(-6, 8)]
                    self.assertEqual(told, [v if k == p else entry(row, k) for k in range(-6, 8)])

    def test_row_handed_in_stays(self):
        row = (5, ((-3, 1), (0, 7), (4, 2)))
        first = written(row, 0, 9)
        self.assertEqual(row, STEPPED)
        self.assertEqual(written(row, 0, 9), first)


if __name__ == "__main__":
    unittest.main()

"""Promise 9: ties settled."""

import itertools
import random
import unittest

from outlineward.ties import settled

FAR = 10 ** 18


def has_values(count, ties):
    """Whether no ring is below nought, told by the shortest ways between all unknowns."""
    ways = [[0 if x == y else None for y in range(count)] for x in range(count)]
    for x, y, c in ties:
        if ways[x][y] is None or c < ways[x][y]:
            ways[x][y] = c
    for k, x, y in itertools.product(range(count), repeat=3):
        if ways[x][k] is not None and ways[k][y] is not None:
            if ways[x][y] is None or ways[x][k] + ways[k][y] < ways[x][y]:
                ways[x][y] = ways[x][k] + ways[k][y]
    return all(ways[x][x] >= 0 for x in range(count))


class Settled(unittest.TestCase):
    def told(self, count, ties):
        """What is told, looked at throughout; the word alone is given back."""
        before = list(ties)
        answer = settled(count, ties)
        self.assertEqual(ties, before)
        self.assertEqual(settled(count, list(ties)), answer)
        self.assertIs(type(answer), tuple)
        word, things = answer
        self.assertIs(type(things), list)
        if word == "values":
            self.look_at_values(count, ties, things)
        else:
            self.assertEqual(word, "ring")
            self.look_at_ring(ties, things)
        return word

    def look_at_values(self, count, ties, values):
        self.assertEqual(len(values), count)
        self.assertTrue(all(type(value) is int for value in values))
        self.assertEqual(values[0], 0)
        for x, y, c in ties:
            self.assertLessEqual(values[x], values[y] + c, (ties, values))

    def look_at_ring(self, ties, ring):
        self.assertGreaterEqual(len(ring), 1)
        for tie in ring:
            self.assertIn(tie, ties)
        self.assertEqual(len(set(ring)), len(ring))
        for k, tie in enumerate(ring):
            self.assertEqual(tie[1], ring[(k + 1) % len(ring)][0], ring)
        self.assertLess(sum(tie[2] for tie in ring), 0)

    def test_no_ties(self):
        self.assertEqual(settled(1, []), ("values", [0]))
        for count in [1, 2, 3, 60]:
            self.assertEqual(self.told(count, []), "values")

    def test_one_with_itself(self):
        for c in [0, 1, 7, FAR]:
            self.assertEqual(self.told(1, [(0, 0, c)]), "values")
            self.assertEqual(self.told(3, [(2, 2, c)]), "values")
        for c in [-1, -7, -FAR]:
            self.assertEqual(settled(1, [(0, 0, c)]), ("ring", [(0, 0, c)]))
            self.assertEqual(settled(3, [(2, 2, c)]), ("ring", [(2, 2, c)]))
            self.assertEqual(settled(3, [(0, 1, -5), (1, 1, c), (1, 2, -8)]), ("ring", [(1, 1, c)]))

    def test_one_tie(self):
        for c in [-FAR, -3, 0, 3, FAR]:
            self.assertEqual(self.told(2, [(0, 1, c)]), "values")
            self.assertEqual(self.told(2, [(1, 0, c)]), "values")

    def test_rings_just_nought_and_just_below(self):
        for count in [2, 3, 4, 7, 60]:
            for last in range(count):
                ring = [(k, (k + 1) % count, k - last) for k in range(count)]
                total = sum(c for x, y, c in ring)
                x, y, c = ring[last]
                ring[last] = (x, y, c - total)
                self.assertEqual(self.told(count, ring), "values")
                self.assertEqual(self.told(count, ring[::-1]), "values")
                ring[last] = (x, y, c - total - 1)
                self.assertEqual(self.told(count, ring), "ring")
                self.assertEqual(self.told(count, ring[::-1]), "ring")

    def test_a_ring_through_all_of_sixty(self):
        order = list(range(60))
        random.Random(4).shuffle(order)
        ring = [(order[k], order[(k + 1) % 60], 1) for k in range(59)] + [(order[59], order[0], -60)]
        self.assertEqual(self.told(60, ring), "ring")
        self.assertEqual(len(settled(60, ring)[1]), 60)
        self.assertEqual(self.told(60, ring[:-1] + [(order[59], order[0], -59)]), "values")

    def test_ties_twice_in_the_list(self):
        self.assertEqual(self.told(2, [(0, 1, 2), (0, 1, 2), (1, 0, -2), (1, 0, -2)]), "values")
        self.assertEqual(self.told(2, [(0, 1, 2), (0, 1, 2), (1, 0, -3), (1, 0, -3)]), "ring")
        self.assertEqual(self.told(2, [(0, 0, -1), (0, 0, -1)]), "ring")

    def test_two_ties_over_the_same_two(self):
        self.assertEqual(self.told(2, [(0, 1, 2), (0, 1, 5), (1, 0, -2)]), "values")
        self.assertEqual(self.told(2, [(0, 1, 2), (0, 1, 5), (1, 0, -3)]), "ring")
        self.assertEqual(self.told(2, [(0, 1, 5), (0, 1, 2), (1, 0, -5)]), "ring")

    def test_two_rings_that_share_unknowns(self):
        shared = [(0, 1, 1), (1, 2, 1)]
        for back, aside in itertools.product([-2, -3], repeat=2):
            ties = shared + [(2, 0, back), (2, 3, 4), (3, 1, aside - 3), (1, 3, 0)]
            word = "values" if has_values(4, ties) else "ring"
            self.assertEqual(self.told(4, ties), word)
        eight = [(0, 1, 0), (1, 0, -1), (0, 2, 0), (2, 0, -1)]
        self.assertEqual(self.told(3, eight), "ring")

    def test_a_ring_far_from_the_first(self):
        ties = [(k, k + 1, -1) for k in range(50)] + [(55, 56, 3), (56, 57, -1), (57, 55, -3)]
        self.assertEqual(self.told(60, ties), "ring")

    def test_a_long_way_up_to_a_ring(self):
        ties = [(k + 1, k, -1) for k in range(57)] + [(58, 59, 0), (59, 58, -1), (0, 58, -5)]
        self.assertEqual(self.told(60, ties), "ring")
        self.assertEqual(self.told(60, ties[::-1]), "ring")

    def test_whole_range(self):
        self.assertEqual(self.told(3, [(0, 1, -FAR), (1, 2, -FAR), (2, 0, 2 * FAR)]), "values")
        self.assertEqual(self.told(3, [(0, 1, -FAR), (1, 2, -FAR), (2, 0, FAR)]), "ring")
        chain = [(k + 1, k, -FAR) for k in range(59)]
        self.assertEqual(self.told(60, chain), "values")

    def test_all_small_ones(self):
        some = [(x, y, c) for x in range(2) for y in range(2) for c in [-1, 0, 1]]
        for many in range(4):
            for ties in itertools.product(some, repeat=many):
                word = "values" if has_values(2, ties) else "ring"
                self.assertEqual(self.told(2, list(ties)), word)

    def test_many(self):
        chance = random.Random(9)
        words = {"values": 0, "ring": 0}
        for again in range(2000):
            count = chance.randint(1, 7)
            size = chance.choice([3, 10, FAR])
            ties = []
            for tie in range(chance.randint(0, 14)):
                ties.append((chance.randrange(count), chance.randrange(count), chance.randint(-size // 3, size)))
            word = "values" if has_values(count, ties) else "ring"
            self.assertEqual(self.told(count, ties), word)
            words[word] += 1
        self.assertGreater(min(words.values()), 300)

    def test_two_hundred_ties_over_sixty(self):
        chance = random.Random(2)
        for again in range(30):
            hidden = [chance.randint(-FAR, FAR) for unknown in range(60)]
            ties = []
            for tie in range(200):
                x, y = chance.randrange(60), chance.randrange(60)
                ties.append((x, y, hidden[x] - hidden[y] + chance.choice([0, 0, 1, FAR])))
            self.assertEqual(self.told(60, ties), "values")
            loose = [(x, y, chance.randint(-FAR, FAR)) for x, y, c in ties]
            self.assertEqual(self.told(60, loose), "values" if has_values(60, loose) else "ring")

    def test_what_was_told_is_emptied(self):
        for ties in [[(0, 1, 2)], [(0, 1, 2), (1, 0, -3)]]:
            first = settled(2, ties)
            again = settled(2, ties)
            first[1].clear()
            self.assertEqual(settled(2, ties), again)
            self.assertEqual(self.told(2, ties), again[0])


if __name__ == "__main__":
    unittest.main()

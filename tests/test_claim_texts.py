"""Promise 8: places, terms and claims, read and written."""

import itertools
import random
import re
import unittest

from outlineward.errors import NoText
from outlineward.reader import read_claim
from outlineward.writer import claim_text
from samples import ZERO, at, each, least, num, rise

WORDS = "each rise to proc need give back any claim if else end while keep call".split()
FAR = 10 ** 18
NINES = 10 ** 19 - 1

# A number more, as it is written behind a name.
MORES = [
    (0, ""), (1, " + 1"), (-1, " - 1"), (10, " + 10"), (-10, " - 10"), (FAR, " + 1" + "0" * 18),
    (-FAR, " - 1" + "0" * 18), (NINES, " + " + "9" * 19), (-NINES, " - " + "9" * 19),
]
BARE = [
    (0, "0"), (1, "1"), (-1, "-1"), (10, "10"), (-10, "-10"), (FAR, "1" + "0" * 18), (-FAR, "-1" + "0" * 18),
    (NINES, "9" * 19), (-NINES, "-" + "9" * 19),
]
PLACES = [((x, d), x + more) for x in ["x", "abcdefgh", "out"] for d, more in MORES]
PLACES += [(("", d), bare) for d, bare in BARE]
ALONE = [(num("x"), "x"), (ZERO, "0"), (num("abcdefgh"), "abcdefgh")]
ALONE += [(("at", r, place), f"{r}[{text}]") for r in ["r", "qrstuvwx"] for place, text in PLACES]
TERMS = [(a, c, text + more) for a, text in ALONE if a != ZERO for c, more in MORES]
TERMS += [(ZERO, c, bare) for c, bare in BARE]
BOUNDS = [(b, c, text + more) for b, text in [(num("x"), "x"), (("row", "s"), "s[]")] for c, more in MORES]
BOUNDS += [(ZERO, c, bare) for c, bare in BARE]


def all_claims():
    told = []
    for a, text in ALONE:
        for b, c, right in TERMS[::7] + TERMS[-9:]:
            told.append((least(a, b, c), f"{text} >= {right}"))
    for b, c, right in TERMS:
        told.append((least(num("y"), b, c), f"y >= {right}"))
    for (t, left), (u, right) in itertools.product(PLACES, PLACES[::5]):
        told.append((rise(t, u, "r"), f"rise {left} to {right} r"))
        told.append((rise(u, t, "r"), f"rise {right} to {left} r"))
        told.append((each(t, u, "r", "<=", num("y"), 2), f"each {left} to {right} r <= y + 2"))
        told.append((each(u, t, "s", ">=", ("row", "r"), -2), f"each {right} to {left} s >= r[] - 2"))
    for way, (b, c, right) in itertools.product([">=", "<="], BOUNDS):
        told.append((each(("", 0), ("n", -1), "r", way, b, c), f"each 0 to n - 1 r {way} {right}"))
    return told


NO_NAMES = ["", "X", "xX", "x1", "1x", "x_", "x'", "-x", "abcdefghi", "x y", "x.y", "$", "x,", ";", "r[", "]"] + WORDS
NO_NUMBERS = [
    "-0", "00", "01", "007", "-01", "-00", "1" + "0" * 19, "-1" + "0" * 19, "0" * 20, "- 1", "+1", "+ 1", "--1", "1.5",
    "1_0", "1e3", "0x1",
]
NO_MORES = [
    " + 0", " - 0", " + 01", " + 00", " + 1" + "0" * 19, " - 1" + "0" * 19, " + -1", " - -1", "+1", "-1", " +1", " -1",
    "+ 1", "- 1", "  + 1", " +  1", " + ", " -", " + 1 + 1", " + 1 - 1", " + y", " - y", " * 2", " 1", " + 1 1",
    " + 1_0",
]
NO_PLACES = NO_NAMES + NO_NUMBERS + ["x" + more for more in NO_MORES] + ["1 + x", "1 + 1", "0 + 1", "r[x]", "r[0] + 1"]
NO_ALONE = (
    NO_NAMES + NO_NUMBERS + ["1", "-1", "x + 1", "x - 1", "r[0] + 1", "r[]", "r [0]", "r[0", "r0]", "r[0]]"]
    + ["r[[0]", "r[0]x", "[0]", "r(0)", "r[r[0]]", "r[0][0]"]
    + [f"{r}[0]" for r in NO_NAMES] + [f"r[{place}]" for place in NO_PLACES]
    + ["r[ 0]", "r[0 ]", "r[ x + 1]", "r[x + 1 ]"]
)
NO_TERMS = (
    [text for text in NO_ALONE if text not in ("1", "-1", "x + 1", "x - 1", "r[0] + 1")]
    + ["x" + more for more in NO_MORES] + ["r[0]" + more for more in NO_MORES]
    + ["1 + x", "0 + 1", "s[] + 1", "x + r[0]"]
)
NO_BOUNDS = (
    NO_NAMES + NO_NUMBERS + ["x" + more for more in NO_MORES] + ["s[]" + more for more in NO_MORES]
    + [f"{s}[]" for s in NO_NAMES]
    + ["s[0]", "s[x]", "s[x] + 1", "s[ ]", "s []", "s[", "s]", "[]", "s[][]", "s[]]", "s[[]"]
)


class Claims(unittest.TestCase):
    def refuses(self, text):
        with self.assertRaises(NoText, msg=repr(text)) as told:
            read_claim(text)
        self.assertEqual(told.exception.line, 1, repr(text))


class Right(Claims):
    def test_read_and_written(self):
        for claim, text in all_claims():
            self.assertEqual(read_claim(text), claim, text)
            self.assertEqual(claim_text(claim), text, claim)
            self.assertEqual(read_claim(claim_text(claim)), claim)

    def test_blanks_at_the_ends(self):
        for claim, text in all_claims()[::50]:
            for ahead, behind in itertools.product(["", " ", "     "], repeat=2):
                self.assertEqual(read_claim(ahead + text + behind), claim)

    def test_kinds(self):
        for text in ["x >= r[y + 1] - 2", "each 0 to 1 r <= s[]", "rise x to y r"]:
            waiting = [read_claim(text)]
            while waiting:
                thing = waiting.pop()
                self.assertIn(type(thing), [tuple, str, int])
                if type(thing) is tuple:
                    waiting.extend(thing)

    def test_names_that_look_like_words(self):
        for x in ["eachs", "toto", "risen", "is", "at", "row", "least", "set", "put", "out", "lose", "know", "ends"]:
            self.assertEqual(read_claim(f"{x} >= 0"), least(num(x), ZERO))
            self.assertEqual(read_claim(f"rise {x} to {x} {x}"), rise((x, 0), (x, 0), x))

    def test_turned_ones_c(self):
        claim = least(ZERO, num("x"), FAR + 1)
        self.assertEqual(read_claim(claim_text(claim)), claim)


class Wrong(Claims):
    def test_no_claim_at_all(self):
        for text in ["", " ", "x", "0", "true", ">=", "x >=", ">= x", " >= ", "r[0]", "each", "rise", "x := 0"]:
            self.refuses(text)

    def test_signs(self):
        for sign in ["<=", ">", "<", "=", "==", "=>", "!=", "> =", ":=", ">=>="]:
            self.refuses(f"x {sign} y")
        for sign in [">", "<", "=", "==", "=>", "!=", "> =", "< =", ":="]:
            self.refuses(f"each x to y r {sign} z")

    def test_no_alone(self):
        for text in NO_ALONE:
            self.refuses(f"{text} >= 0")
            self.refuses(f"{text} >= x + 1")

    def test_no_term(self):
        for text in NO_TERMS:
            self.refuses(f"x >= {text}")
            self.refuses(f"r[0] >= {text}")

    def test_no_place(self):
        for text in NO_PLACES:
            self.refuses(f"each {text} to y r >= 0")
            self.refuses(f"each y to {text} r >= 0")
            self.refuses(f"rise {text} to y r")
            self.refuses(f"rise y to {text} r")

    def test_no_row(self):
        for text in NO_NAMES + ["r[0]", "r[]", "0", "1", "r + 1"]:
            self.refuses(f"each x to y {text} >= 0")
            self.refuses(f"rise x to y {text}")

    def test_no_bound(self):
        for text in NO_BOUNDS:
            self.refuses(f"each x to y r >= {text}")
            self.refuses(f"each x to y r <= {text}")

    def test_a_word_too_many_or_lacking_or_twice(self):
        for text in [
            "x >= r[y + 1] - 2", "each x + 1 to n - 1 r >= s[] + 4", "each 0 to n r <= z - 4", "rise x - 1 to n + 1 r",
            "x >= y", "0 >= x", "each x to y r >= 5", "rise x to y r",
        ]:
            words = text.split(" ")
            for k in range(len(words)):
                self.refuses(" ".join(words[:k] + words[k + 1:]))
                self.refuses(" ".join(words[:k] + ["word"] + words[k:]))
                self.refuses(" ".join(words[:k] + [words[k], words[k]] + words[k + 1:]))
            self.refuses(text + " word")

    def test_blanks_lacking_or_too_many(self):
        for text in [
            "x >= r[y + 1] - 2", "each x + 1 to n - 1 r >= s[] + 4", "rise x - 1 to n + 1 r", "each 0 to -1 r <= 5",
        ]:
            for k, sign in enumerate(text):
                if sign == " ":
                    self.refuses(text[:k] + text[k + 1:])
                if 0 < k:
                    self.refuses(text[:k] + " " + text[k:])

    def test_other_white_signs(self):
        for text in ["\nx >= 0", "x >= 0\n", "x\n>= 0", "x >=\n0", "x >= 0\ny >= 0", "\tx >= 0", "x >= 0\t", "x\t>= 0"]:
            self.refuses(text)

    def test_signs_beyond_the_blank_to_the_tilde(self):
        for text in ["\u00e4 >= 0", "x >= \u0663", "x >= \u00b2", "x >= y + \u0661", "x\u00a0>= 0"]:
            self.refuses(text)


NAME = r"(?!(?:" + "|".join(WORDS) + r")(?![a-z]))[a-z]{1,8}"
N = r"(?:0|[1-9][0-9]{0,18})"
MORE = r"(?: [+-] (?!0)" + N + r")?"
WHOLE = r"(?:-(?!0)" + N + "|" + N + ")"
PLACE = f"(?:{NAME}{MORE}|{WHOLE})"
AT = rf"(?:{NAME}\[{PLACE}\]|{NAME})"
CLAIM = re.compile(
    rf"(?:(?:{AT}|0) >= (?:{AT}{MORE}|{WHOLE})"
    rf"|each {PLACE} to {PLACE} {NAME} [<>]= (?:{NAME}(?:\[\])?{MORE}|{WHOLE})"
    rf"|rise {PLACE} to {PLACE} {NAME})"
)


class Mutants(Claims):
    """Texts with some signs changed are held against the grammar, told once more as a pattern."""

    def test_right_ones_fit_the_pattern(self):
        for claim, text in all_claims():
            self.assertIsNotNone(CLAIM.fullmatch(text), text)

    def test_changed_ones(self):
        chance = random.Random(8)
        texts = [text for claim, text in all_claims()]
        texts = [text for text in texts if len(text) < 40] + ["x >= r[y + 1] - 2", "each 0 to n r <= s[] - 4"] * 40
        pieces = ["", "", " ", "0", "1", "-", " + 1", " - ", "x", "[", "]", "[]", "[0]", ">=", "to ", "r "]
        right = 0
        for again in range(30000):
            text = chance.choice(texts)
            for change in range(chance.choice([1, 1, 2, 3])):
                k = chance.randrange(len(text) + 1)
                text = text[:k] + chance.choice(pieces) + text[k + chance.choice([0, 0, 1, 2]):]
            bare = text.strip(" ")
            if CLAIM.fullmatch(bare):
                right += 1
                self.assertEqual(claim_text(read_claim(text)), bare)
            else:
                self.refuses(text)
        self.assertGreater(right, 1000)


if __name__ == "__main__":
    unittest.main()

"""Promise 8: programs, read and written, and the line at which a text is refused."""

import itertools
import random
import unittest

from outlineward.checks import check
from outlineward.errors import NoText, OutlineError
from outlineward.reader import read
from outlineward.writer import claim_text, shown
from samples import FILL, FILL_TEXT, TRUE, ZERO, at, branch, each, least, loop, num, proc, rise

# Each form of statement on a row of its own, and what it is read to.
PLAIN = [
    ("x := 0", ("set", "x", ZERO, 0)),
    ("x := -7", ("set", "x", ZERO, -7)),
    ("x := 1000000000000000000", ("set", "x", ZERO, 10 ** 18)),
    ("x := y", ("set", "x", num("y"), 0)),
    ("x := x + 1", ("set", "x", num("x"), 1)),
    ("x := y - 10", ("set", "x", num("y"), -10)),
    ("x := r[0]", ("set", "x", at("r"), 0)),
    ("x := r[x + 2] - 3", ("set", "x", at("r", "x", 2), -3)),
    ("out := r[-1] + 3", ("set", "out", at("r", "", -1), 3)),
    ("r[0] := 0", ("put", "r", ("", 0), ZERO, 0)),
    ("r[-4] := -9", ("put", "r", ("", -4), ZERO, -9)),
    ("r[x] := y", ("put", "r", ("x", 0), num("y"), 0)),
    ("r[x - 1] := y + 5", ("put", "r", ("x", -1), num("y"), 5)),
    ("r[x + 1] := s[y - 2] - 5", ("put", "r", ("x", 1), at("s", "y", -2), -5)),
    ("any x", ("any", "x")),
    ("claim x >= 0", ("claim", least(num("x"), ZERO))),
    ("claim each 0 to n - 1 r <= s[] + 1", ("claim", each(("", 0), ("n", -1), "r", "<=", ("row", "s"), 1))),
    ("claim rise x to y r", ("claim", rise(("x", 0), ("y", 0), "r"))),
    ("call x f ;", ("call", "x", "f", (), ())),
    ("call x f y ;", ("call", "x", "f", ("y",), ())),
    ("call x f ; r", ("call", "x", "f", (), ("r",))),
    ("call x x x x ; x x", ("call", "x", "x", ("x", "x"), ("x", "x"))),
    ("call out abcdefgh y z y z ; r s t", ("call", "out", "abcdefgh", ("y", "z", "y", "z"), ("r", "s", "t"))),
]
HEADS = [
    ("proc f ;", proc("f")),
    ("proc f x ;", proc("f", ["x"])),
    ("proc f ; r", proc("f", [], ["r"])),
    ("proc f x y z w ; r s t", proc("f", "xyzw", "rst")),
    ("proc f f f ; f", proc("f", "ff", "f")),
]
WRONG_ROWS = [
    "x", "x :=", ":= 0", "x = 0", "x := ", "x :=  0", "x  := 0", "x:= 0", "x :=0", "x := 0 0", "x := -0", "x := 00",
    "x := y + 0", "x := y - 0", "x := y + z", "x := y z", "x y := 0", "x + 1 := 0", "0 := 0", "r[] := 0", "x := r[]",
    "r[ 0] := 0", "r[0 ] := 0", "r [0] := 0", "r[0]  := 0", "r[x + 0] := 0", "r[0] := s[]", "r[0] + 1 := 0", "X := 0",
    "abcdefghi := 0", "x := abcdefghi", "to := 0", "x := to", "any[0] := 0", "x := 12345678901234567890",
    "any", "any 0", "any  x", "any x y", "any any", "any r[0]", "anyx y", "Any x",
    "claim", "claim x", "claim  x >= 0", "claim x >= 0 0", "claim claim x >= 0", "claim each 0 to 1 r", "x >= 0",
    "each 0 to 1 r >= 0", "rise 0 to 1 r",
    "call", "call ;", "call x ;", "call x f", "call x f y", "call  x f ;", "call x f  ;", "call x f ; ;", "call x f ;;",
    "call x f;", "call x f ;r", "call x f ;  r", "call x f 0 ;", "call x f ; r[]", "call x f y, z ;", "call x call ;",
    "call end f ;", "call x f end ;", "call x f ; end", "call 0 f ;", "call x f abcdefghi ;",
    "if", "if x", "if  x >= 0", "if each 0 to 1 r >= 0", "if rise 0 to 1 r", "if x >= 0 then", "if x <= 0", "if x > 0",
    "while", "while x", "while  x >= 0", "while each 0 to 1 r >= 0", "while rise 0 to 1 r", "while x >= 0 do",
    "return", "skip", "# words", ";", "-", "0", "ends", "end x", "else x", "back x", "back back", "else if x >= 0",
]
WRONG_HEADS = [
    "proc", "proc ;", "proc f", "proc f x", "proc f x y r", "proc  f ;", "proc f  ;", "proc f ; ;", "proc f;",
    "proc f ;r", "proc f ;  r", "proc f x  y ;", "proc 0 ;", "proc f 0 ;", "proc f ; 0", "proc f x, y ;", "proc end ;",
    "proc f to ;", "proc f ; to", "proc f ; r[]", "proc abcdefghi ;", "proc F ;", "procs f ;", "Proc f ;",
    "proc proc f ;",
]
NEED, GIVE, KEEP, IF, WHILE = [word + " 0 >= 0" for word in ["need", "give", "keep", "if", "while"]]


class Texts(unittest.TestCase):
    def refuses(self, line, text):
        with self.assertRaises(NoText, msg=repr(text)) as told:
            read(text)
        self.assertEqual(told.exception.line, line, repr(text))

    def refuses_rows(self, line, rows):
        """Refused at that line, whatever stands behind it, and with empty rows between."""
        self.refuses(line, "\n".join(rows))
        self.refuses(line, "\n".join([" " * k + row + " " * k for k, row in enumerate(rows)]))
        for behind in ["", "back", "end", "proc f ;", "no row at all"]:
            self.refuses(line, "\n".join(rows[:line] + [behind]))
        spaced = []
        for row in rows:
            spaced += ["", row, "  "]
        self.refuses(3 * line - 1, "\n".join(spaced))


class Right(Texts):
    def both(self, text, program):
        self.assertEqual(read(text), program, text)
        self.assertEqual(shown(program), text)
        self.assertEqual(read(shown(program)), program)

    def test_no_signs(self):
        self.both("", ())
        for text in [" ", "\n", "\n\n", "  \n   \n"]:
            self.assertEqual(read(text), ())

    def test_ordinary(self):
        self.both(FILL_TEXT, FILL)
        self.assertIsNone(check(read(FILL_TEXT)))

    def test_heads(self):
        for row, head in HEADS:
            self.both(row + "\nback", (head,))

    def test_each_plain_statement(self):
        for row, statement in PLAIN:
            self.both(f"proc f ;\n  {row}\nback", (proc("f", body=[statement]),))

    def test_all_plain_statements(self):
        rows = ["  " + row for row, statement in PLAIN]
        self.both("\n".join(["proc f ;"] + rows + ["back"]), (proc("f", body=[statement for row, statement in PLAIN]),))

    def test_needs_and_gives(self):
        claims = [TRUE, each(("", 0), ("x", 1), "r"), rise(("x", -1), ("", -1), "r")]
        for many, more in itertools.product(range(4), repeat=2):
            rows = [f"  need {claim_text(claim)}" for claim in claims[:many]]
            rows += [f"  give {claim_text(claim)}" for claim in claims[:more]]
            text = "\n".join(["proc f x ; r"] + rows + ["  any y", "back"])
            self.both(text, (proc("f", "x", "r", claims[:many], claims[:more], [("any", "y")]),))

    def test_ifs_and_loops(self):
        one = [("any", "x")]
        keeps = [least(num("x"), ZERO), rise(("", 0), ("x", 0), "r")]
        keep_rows = "    keep x >= 0\n    keep rise 0 to x r\n"
        for rows, body in [
            ("  if x >= y + 1\n  else\n  end", [branch(least(num("x"), num("y"), 1))]),
            ("  if 0 >= 0\n    any x\n  else\n  end", [branch(TRUE, one)]),
            ("  if 0 >= 0\n  else\n    any x\n  end", [branch(TRUE, [], one)]),
            ("  while 0 >= r[x]\n  end", [loop(least(ZERO, at("r", "x")))]),
            ("  while 0 >= 0\n" + keep_rows + "  end\n  any x", [loop(TRUE, keeps)] + one),
            ("  while 0 >= 0\n" + keep_rows + "    any x\n    any x\n  end", [loop(TRUE, keeps, one + one)]),
        ]:
            self.both("proc f ;\n" + rows + "\nback", (proc("f", body=body),))

    def test_two_blanks_for_each_round_it(self):
        text = """\
proc f ;
  while 0 >= 0
    keep 0 >= 0
    if 0 >= 0
      while 0 >= 0
        keep 0 >= 0
        if 0 >= 0
          any x
        else
          any y
        end
        any z
      end
    else
      any w
    end
  end
back"""
        inner = loop(TRUE, [TRUE], [branch(TRUE, [("any", "x")], [("any", "y")]), ("any", "z")])
        self.both(text, (proc("f", body=[loop(TRUE, [TRUE], [branch(TRUE, [inner], [("any", "w")])])]),))

    def test_several_procedures(self):
        third = proc("g", "x", "r", body=[("any", "y")])
        text = "proc f ;\nback\nproc f ;\nback\nproc g x ; r\n  any y\nback"
        self.both(text, (proc("f"), proc("f"), third))

    def test_what_check_refuses_is_read(self):
        text = "proc f x x ; x\n  need y >= 0\n  any x\n  call x no x ; r r\nback"
        body = [("any", "x"), ("call", "x", "no", ("x",), ("r", "r"))]
        self.both(text, (proc("f", "xx", "x", [least(num("y"), ZERO)], [], body),))
        with self.assertRaises(OutlineError):
            check(read(text))

    def test_empty_rows_and_blanks_at_the_ends(self):
        rows = FILL_TEXT.split("\n")
        self.assertEqual(read("\n".join([row.strip(" ") for row in rows])), FILL)
        self.assertEqual(read("\n".join([" " * (k % 5) + row + " " * (k % 3) for k, row in enumerate(rows)])), FILL)
        self.assertEqual(read("\n\n   \n" + FILL_TEXT.replace("\n", "\n \n\n") + "\n\n  "), FILL)

    def test_more_than_the_bounds_tell(self):
        program = (proc("f", "x", "r", [TRUE] * 30, [TRUE] * 30, [loop(TRUE, [TRUE] * 30, [("any", "y")] * 300)]),)
        self.assertEqual(read(shown(program)), program)

    def test_greatest_text(self):
        text = "proc f ;\n" + "any x\n" * 1300 + "back"
        self.assertLessEqual(len(text), 8000)
        self.assertEqual(read(text), (proc("f", body=[("any", "x")] * 1300),))
        self.refuses(1302, "proc f ;\n" + "any x\n" * 1300 + "bacK")

    def test_deeper_than_the_bounds_tell(self):
        text = "proc f ;\n" + "while 0 >= 0\n" * 200 + "end\n" * 200 + "back"
        told = read(text)[0][6]
        for depth in range(200):
            self.assertEqual(told[0][:3], ("while", TRUE, ()))
            told = told[0][3]
        self.assertEqual(told, ())

    def test_what_is_handed_in_stays(self):
        before = repr(FILL)
        first = shown(FILL)
        self.assertEqual(repr(FILL), before)
        self.assertEqual(shown(FILL), first)
        self.assertEqual(read(first), read(first))


class WrongRows(Texts):
    def test_wrong_statements(self):
        for row in WRONG_ROWS:
            self.refuses_rows(2, ["proc f ;", row])
            self.refuses_rows(4, ["proc f ;", NEED, "any x", row])
            self.refuses_rows(4, ["proc f ;", WHILE, KEEP, row])
            self.refuses_rows(3, ["proc f ;", IF, row])
            self.refuses_rows(4, ["proc f ;", IF, "else", row])
            self.refuses_rows(5, ["proc f ;", "back", "proc f ;", "any x", row])

    def test_wrong_heads(self):
        for row in WRONG_HEADS:
            self.refuses_rows(1, [row])
            self.refuses_rows(3, ["proc f ;", "back", row])

    def test_outside_a_procedure(self):
        plain = [row for row, statement in PLAIN]
        for row in plain + [NEED, GIVE, KEEP, IF, WHILE, "else", "end", "back", "words"]:
            self.refuses_rows(1, [row])
            self.refuses_rows(3, ["proc f ;", "back", row])
            self.refuses_rows(3, ["proc f x ; r", "back", row, "proc g ;"])

    def test_proc_within_a_procedure(self):
        for rows in [[], [NEED], [GIVE], ["any x"], [IF], [IF, "else"], [WHILE]]:
            self.refuses_rows(2 + len(rows), ["proc f ;"] + rows + ["proc g ;"])

    def test_need(self):
        for rows in [[GIVE], [NEED, GIVE], [IF], [WHILE], [WHILE, KEEP]]:
            self.refuses_rows(2 + len(rows), ["proc f ;"] + rows + [NEED])
        for row, statement in PLAIN:
            self.refuses_rows(3, ["proc f ;", row, NEED])
        self.refuses_rows(5, ["proc f ;", IF, "else", "end", NEED])
        self.refuses_rows(4, ["proc f ;", WHILE, "end", NEED])

    def test_give(self):
        for rows in [[IF], [IF, "else"], [WHILE], [WHILE, KEEP]]:
            self.refuses_rows(2 + len(rows), ["proc f ;"] + rows + [GIVE])
        for row, statement in PLAIN:
            self.refuses_rows(3, ["proc f ;", row, GIVE])
        self.refuses_rows(5, ["proc f ;", IF, "else", "end", GIVE])
        self.refuses_rows(4, ["proc f ;", WHILE, "end", GIVE])

    def test_keep(self):
        for rows in [[], [NEED], [GIVE], ["any x"], [IF], [IF, "else"], [WHILE, "end"]]:
            self.refuses_rows(2 + len(rows), ["proc f ;"] + rows + [KEEP])
        for row, statement in PLAIN:
            self.refuses_rows(4, ["proc f ;", WHILE, row, KEEP])
        self.refuses_rows(4, ["proc f ;", WHILE, IF, KEEP])
        self.refuses_rows(5, ["proc f ;", WHILE, WHILE, "end", KEEP])

    def test_claims_of_needs_gives_and_keeps(self):
        for claim in ["", " 0 >= 0", "x", "x >= -0", "each 0 to 1 r", "rise 0 to 1", "0 >= 0 0"]:
            for word in ["need", "give"]:
                self.refuses_rows(2, ["proc f ;", f"{word} {claim}"])
            self.refuses_rows(3, ["proc f ;", WHILE, f"keep {claim}"])

    def test_else(self):
        for rows in [[], ["any x"], [WHILE], [IF, "else"], [IF, "else", "any x"], [IF, "else", "end"]]:
            self.refuses_rows(2 + len(rows), ["proc f ;"] + rows + ["else"])
        self.refuses_rows(4, ["proc f ;", IF, WHILE, "else"])
        self.refuses_rows(6, ["proc f ;", IF, IF, "else", "any x", "else"])

    def test_end(self):
        for rows in [[], [NEED], ["any x"], [IF], [IF, "any x"], [WHILE, "end"]]:
            self.refuses_rows(2 + len(rows), ["proc f ;"] + rows + ["end"])
        self.refuses_rows(5, ["proc f ;", IF, WHILE, "end", "end"])

    def test_back(self):
        for rows in [[IF], [IF, "else"], [WHILE], [WHILE, IF, "else", "end"]]:
            self.refuses_rows(2 + len(rows), ["proc f ;"] + rows + ["back"])
        self.refuses_rows(3, ["proc f ;", "back", "back"])

    def test_the_first_of_several(self):
        self.refuses(2, "proc f ;\nany\nany\nproc")
        self.refuses(3, "proc f ;\n\nany\n\nany")


class Cut(Texts):
    def test_cut_behind_any_row(self):
        rows = FILL_TEXT.split("\n")
        for k in range(len(rows)):
            if k == 0 or rows[k - 1] == "back":
                self.assertEqual(read("\n".join(rows[:k])), FILL[:rows[:k].count("back")])
            else:
                self.refuses(k + 1, "\n".join(rows[:k]))

    def test_empty_rows_are_counted(self):
        self.refuses(2, "proc f ;")
        self.refuses(3, "proc f ;\n")
        self.refuses(4, "proc f ;\n\n")
        self.refuses(4, "proc f ;\n  \n  ")
        self.refuses(5, "\n\nproc f ;\n")
        self.refuses(7, "\nproc f ;\n\nif 0 >= 0\n\nany x")
        self.refuses(6, "proc f ;\nback\n\nproc g ;\n")


class Changed(Texts):
    """Rows taken away, doubled and exchanged: the line told is held against cuts ahead of it."""

    def line_of(self, rows):
        try:
            read("\n".join(rows))
        except NoText as told:
            return told.line
        return None

    def test_the_line_is_the_first_that_can_not_stand(self):
        chance = random.Random(8)
        rows = FILL_TEXT.split("\n")
        seen = set()
        for again in range(3000):
            changed = list(rows)
            for change in range(chance.choice([1, 1, 2])):
                k, other = chance.randrange(len(changed)), chance.randrange(len(changed))
                deed = chance.choice(["take", "double", "exchange"])
                if deed == "take":
                    del changed[k]
                elif deed == "double":
                    changed.insert(k, changed[other])
                else:
                    changed[k], changed[other] = changed[other], changed[k]
            line = self.line_of(changed)
            if line is None:
                self.assertEqual(shown(read("\n".join(changed))).replace(" ", ""), "\n".join(changed).replace(" ", ""))
                continue
            self.assertIn(self.line_of(changed[:line - 1]), [None, line])
            if line <= len(changed):
                self.assertEqual(self.line_of(changed[:line]), line)
            seen.add(line)
        self.assertGreater(len(seen), 25)


if __name__ == "__main__":
    unittest.main()

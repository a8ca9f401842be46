"""Promise 22: the desk, which takes texts."""

import unittest

from outlineward.desk import judged_text, run_text
from outlineward.duties import duties
from outlineward.errors import NoCount, NoName, NoSet, NoText, TooMany, TooWide
from outlineward.reader import read
from programs import BROKEN, KEPT


class Judged(unittest.TestCase):
    def test_kept(self):
        for text in KEPT:
            self.assertEqual(judged_text(text), f"kept {len(duties(read(text)))}")
        self.assertEqual(judged_text(KEPT[0]), "kept 10")
        self.assertEqual(judged_text(""), "kept 0")
        self.assertEqual(judged_text("\n  \n"), "kept 0")
        self.assertEqual(judged_text("proc f ;\nback"), "kept 0")
        self.assertEqual(judged_text("  proc f ; \n\n claim 0 >= 0\n  back  "), "kept 1")

    def test_broken(self):
        for text, (f, kind, path, k) in BROKEN:
            told = ".".join(str(number) for number in path) if path else "-"
            self.assertEqual(judged_text(text), f"broken {f} {kind} {told} {k}")

    def test_paths(self):
        self.assertEqual(judged_text("proc f ;\nany k\nclaim k >= 0\nback"), "broken f claim 1 0")
        self.assertEqual(judged_text("proc f ;\ngive 0 >= 0\ngive out >= 1\nback"), "broken f give - 1")
        inner = "while k >= 0\nkeep 0 >= 0\nkeep k >= 0\nany k\nend"
        text = f"proc f ;\nany k\nif k >= 0\nelse\nany j\nany j\nif k >= 9\nelse\n{inner}\nend\nend\nback"
        self.assertEqual(judged_text(text), "broken f enter 1.1.2.1.0 1")
        text = f"proc f ;\nif k >= 0\n{inner}\nelse\nend\nback"
        self.assertEqual(judged_text(text), "broken f keep 0.0.0 1")
        text = "proc f ;\nany k\nany k\ncall k g k ;\nback\nproc g x ;\nneed x >= x\nneed x >= 0\nback"
        self.assertEqual(judged_text(text), "broken f need 2 1")

    def test_refused(self):
        self.no_text(2, "proc f ;\nx = 0\nback")
        self.no_text(3, "proc f ;\nx := 0")
        self.no_text(1, "back")
        self.assertRaises(NoName, judged_text, "proc f ;\ncall k g ;\nback")
        self.assertRaises(NoName, judged_text, "proc f ;\nk := r[0]\nback")
        self.assertRaises(NoCount, judged_text, "proc f x ;\ncall k f ;\nback")
        self.assertRaises(NoSet, judged_text, "proc f x ;\nx := 0\nback")
        fork = "if x >= 0\nelse\nend\n"
        self.assertRaises(TooMany, judged_text, f"proc f x ;\nclaim x >= 0\n{fork * 5}back")
        reads = "".join(f"k := r[{d}]\n" for d in range(6))
        self.assertRaises(TooWide, judged_text, f"proc f ; r\n{reads}claim 0 >= 0\nback")

    def no_text(self, line, text):
        with self.assertRaises(NoText) as caught:
            judged_text(text)
        self.assertEqual(caught.exception.line, line)


class Run(unittest.TestCase):
    def ends(self, told, text, numbers="", inputs="", most=2000):
        for again in range(2):
            self.assertEqual(run_text(text, numbers, inputs, most), told)

    def test_each_end(self):
        text = "proc f x y ; r\nneed 0 >= 0\nneed x >= y\n"
        text += "any k\nany j\nclaim k >= x\nout := j - 5\ncall k g k ;\nback\n"
        text += "proc g n ;\ngive n >= 0\ngive n >= 1\nif n >= 9\ncall k g n ;\nelse\nend\nback"
        self.ends("unmet 1", text, "1 2", "")
        self.ends("asks", text, "2 2", "")
        self.ends("asks", text, "2 2", "7")
        self.ends("spent", text, "2 2", "7 7", 2)
        self.ends("spent", text, "2 2", "7 7", 0)
        self.ends("untrue f claim 2 0", text, "2 2", "1 7")
        self.ends("done 2", text, "2 2", "2 7")
        self.ends("done -5", text, "2 2", "2 0")
        self.ends("untrue g give - 1", text, "0 -1", "0 0")
        self.ends("untrue g give - 0", text, "-1 -1", "-1 0")
        self.ends("deep", text, "9 9", "9 0")
        text = "proc f ;\ncall k g ;\nback\nproc g ;\nif 0 >= 0\nany k\ncall k h k ;\nelse\nend\nback\n"
        self.ends("untrue g need 0.0.1 0", text + "proc h x ;\nneed x >= 1\nback", "", "0")
        self.ends("untrue f enter 1 0", "proc f ;\nany k\nwhile 0 >= 0\nkeep k >= 1\nany k\nend\nback", "", "0")
        self.ends("untrue f keep 1 0", "proc f ;\nany k\nwhile 0 >= 0\nkeep k >= 1\nany k\nend\nback", "", "1 0")

    def test_the_first_procedure_with_bare_rows(self):
        text = "proc f ; r s\nclaim each -9 to 9 r >= s[]\nout := r[5] + 3\nback\nproc g ;\nback"
        self.ends("done 3", text)

    def test_blanks_and_line_feeds(self):
        text = "proc f x y ;\nany k\nout := y\nif k >= y\nany k\nout := k\nelse\nend\nback"
        for numbers in ["1 -2", " 1 -2 ", "1\n-2", "\n\n1 \n  -2\n", "   1      -2"]:
            for inputs in ["3 4", "\n3\n4", "  3   4  \n ", "3 4 5 6 7"]:
                self.ends("done 4", text, numbers, inputs)
        self.ends("done 0", "proc f ;\nback", "", "")
        self.ends("done 0", "proc f ;\nback", "  \n ", " \n\n")

    def test_great_numbers(self):
        text = "proc f x ;\nany k\nout := k\nif x >= 0\nout := x\nelse\nend\nback"
        self.ends("done 9999999999999999999", text, "9999999999999999999", "0")
        self.ends("done -9999999999999999999", text, "-1", "-9999999999999999999")
        self.ends("done 0", text, "0", "0")

    def test_no_numbers(self):
        text = "proc f x ;\nback"
        for wrong in [
            "-0", "01", "00", "-01", "12345678901234567890", "-12345678901234567890", "x", "one", "+1", "1.5", "--1",
            "-", "1-", "1,2", "0x1", "1_0", "\t1", "1\t2", "\u0661", "\u00b2", "1\r", "- 1",
        ]:
            self.no_text(text, wrong, "")
            self.no_text(text, "1", wrong)
            self.no_text(text, "1", "1 2 " + wrong)
            self.no_text("proc f x ;\nneed 0 >= 1\nback", "1", wrong)

    def no_text(self, text, numbers, inputs, line=1):
        with self.assertRaises(NoText) as caught:
            run_text(text, numbers, inputs, 10)
        self.assertEqual(caught.exception.line, line)

    def test_another_count(self):
        for params, numbers in [("", "1"), (" x", ""), (" x", "1 2"), (" x y", "1"), (" x y", "1 2 3")]:
            text = f"proc f{params} ;\nback"
            self.assertRaises(NoCount, run_text, text, numbers, "", 10)
        self.assertRaises(NoCount, run_text, "", "", "", 10)
        self.assertRaises(NoCount, run_text, "\n\n", "", "", 0)

    def test_programs_are_checked_first(self):
        for numbers, inputs in [("", ""), ("x", ""), ("1 2 3", "-0")]:
            self.no_text("proc f ;\nany k\nany r[0]\nback", numbers, inputs, 3)
            self.no_text("proc f ;\nany k", numbers, inputs, 3)
            self.assertRaises(NoName, run_text, "proc f ;\ncall k g ;\nback", numbers, inputs, 10)
            self.assertRaises(NoSet, run_text, "proc f ;\nback\nproc g x ;\nany x\nback", numbers, inputs, 10)
            self.assertRaises(NoCount, run_text, "proc f ;\ncall k f k ;\nback", numbers, inputs, 10)

    def test_most(self):
        text = "proc f ;\nwhile 0 >= 0\nend\nback"
        for most in [0, 1, 7, 2000]:
            self.ends("spent", text, "", "", most)


if __name__ == "__main__":
    unittest.main()

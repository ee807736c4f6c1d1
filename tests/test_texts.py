import copy
import unittest

from leadround.errors import BadRow, BadText
from leadround.rows import least
from leadround.texts import read, written
from tests.support import HUGE, Odd, signs_of, tellings, wrong_rows

SIXTY = 10 ** 60 - 1
SIXTY_ONE = 10 ** 60

NO_TEXTS = [None, True, False, 0, 1, -1, 1.0, 1j, b"(1)", bytearray(b"(1)"), [], ["(1)"], ["(", "1", ")"], (), ("(1)",),
            {}, {"(1)": 1}, {"(1)"}, ([], [1]), range(3), object(), Odd(), str]


class Written(unittest.TestCase):
    def check(self, row, text):
        told = written(row)
        self.assertIs(type(told), str)
        self.assertEqual(told, text)

    def test_leads_of_none_and_of_several(self):
        self.check(([], [1]), "(1)")
        self.check(([1], [2]), "1 (2)")
        self.check(([1, 2, 3], [4]), "1 2 3 (4)")

    def test_rounds_of_one_and_of_several(self):
        self.check(([], [1, 2, 3]), "(1 2 3)")
        self.check(([5, 6], [1, 2, 3]), "5 6 (1 2 3)")

    def test_nought_and_below(self):
        self.check(([], [0]), "(0)")
        self.check(([0], [-1, 0]), "(0 -1)")
        self.check(([-10, 0], [-7, -20]), "-10 0 (-7 -20)")

    def test_signs_of_sixty_figures(self):
        nines = "9" * 60
        self.check(([SIXTY], [-SIXTY]), nines + " (-" + nines + ")")
        self.check(([10 ** 59], [-10 ** 59]), "1" + "0" * 59 + " (-1" + "0" * 59 + ")")

    def test_not_told_least(self):
        self.check(([1, 1], [1, 1]), "(1)")
        self.check(([9, 2], [1, 2, 1, 2]), "9 (2 1)")
        self.check(([3, 1, 2, 3], [1, 2, 3]), "(3 1 2)")

    def test_one_row_one_text(self):
        texts = {}
        for row in tellings([-1, 0, 12], 2, 3):
            texts.setdefault(written(row), set()).add(tuple(signs_of(row, 30)))
        self.assertTrue(all(len(rows) == 1 for rows in texts.values()))

    def test_long_rows(self):
        many = 20000
        self.assertEqual(written((list(range(many)), [-1])), " ".join(map(str, range(many))) + " (-1)")


class Read(unittest.TestCase):
    def check(self, text, row):
        told = read(text)
        self.assertEqual(told, row)
        self.assertEqual([type(told)] + [type(part) for part in told], [tuple, list, list])
        self.assertTrue(all(type(sign) is int for sign in told[0] + told[1]))

    def test_what_is_written(self):
        for row in tellings([-1, 0, 12], 2, 3) + [([HUGE], [-HUGE, SIXTY, -SIXTY, 10 ** 59])]:
            self.check(written(row), least(row))

    def test_as_it_is_told_there(self):
        self.check("(1 1)", ([], [1, 1]))
        self.check("1 (1)", ([1], [1]))
        self.check("9 2 (1 2 1 2)", ([9, 2], [1, 2, 1, 2]))
        self.check("0 0 (0 0 0)", ([0, 0], [0, 0, 0]))

    def test_each_telling_is_read_as_it_is_told(self):
        for lead, circle in tellings([-30, 0, 7], 2, 3):
            text = "".join(str(sign) + " " for sign in lead) + "(" + " ".join(map(str, circle)) + ")"
            self.check(text, (lead, circle))

    def test_signs(self):
        self.check("0 -1 10 -10 (100 -100 909)", ([0, -1, 10, -10], [100, -100, 909]))
        self.check("(" + "9" * 60 + ")", ([], [SIXTY]))
        self.check("-" + "9" * 60 + " (0)", ([-SIXTY], [0]))
        self.check("(-1" + "0" * 59 + ")", ([], [-10 ** 59]))

    def test_read_and_written_again(self):
        for text in ["(0)", "1 (2)", "-5 6 (1 2 3)", "9 (2 1)"]:
            self.assertEqual(written(read(text)), text)


class NotRead(unittest.TestCase):
    def refused(self, texts):
        for text in texts:
            with self.subTest(text):
                self.assertRaises(BadText, read, text)

    def test_nothing_and_blanks_alone(self):
        self.refused(["", " ", "  ", "\n"])

    def test_blanks_too_many(self):
        self.refused([" (1)", "(1) ", "( 1)", "(1 )", "(1  2)", "1  (2)", " 1 (2)", "1  2 (3)", "1 (2) ", "1 ( 2)",
                      "1 (2 )", "- 1 (2)", "(- 1)", "(1 2  3)", "  (1)", "( 1 )", "1 2 (3  4)"])

    def test_blanks_missing(self):
        self.refused(["1(2)", "1 2(3)", "-1(2)", "(1-2)", "1-2 (3)"])

    def test_other_signs_in_the_place_of_a_blank(self):
        for other in "\t\n\r\x0b\x0c\x00\x1c\x1f\x7f,;_.+'":
            self.refused(["1" + other + "(2)", "(1" + other + "2)", "1" + other + "2 (3)", other + "(1)", "(1)" + other,
                          "(" + other + "1)", "(1" + other + ")", "1 " + other + "(2)", other + "1 (2)"])

    def test_every_sign_but_figures(self):
        for code in range(127):
            other = chr(code)
            if other not in "0123456789":
                self.refused(["(" + other + ")", other + " (1)", "(1 " + other + ")"])
                self.refused(["(1" + other + ")", "1" + other + " (1)", "(1)" + other])
                if other != "-":
                    self.refused(["(" + other + "1)", "(-" + other + "1)"])
                    if other != "(":
                        self.refused([other + "1 (1)", other + "(1)"])

    def test_brackets(self):
        self.refused(["1", "1 2", "1 ", "(", ")", "(1", "1)", "1 (2", "1 2)", "((1)", "(1))", "((1))", "(1)(2)", "(1) (2)",
                      "()", "(1)()", "()(1)", "1 ()", "1 2 ()", "( )", "1 ( )", ")1(", "1 )2(", "(1 (2)", "(1 (2))",
                      "(1) 2", "(1) 2 (3)", "(1)2", "1 (2) 3", "[1]", "{1}", "<1>", "(1]", "[1)", "1 (2)(", "1 (2))",
                      "1) (2)", "(1 2) 3)", "(1)) ", ") (1)", "( (1)", "1 (2 )3)", "(1 ) 2)"])

    def test_needless_noughts(self):
        self.refused(["(00)", "(01)", "01 (2)", "(-01)", "(1 02)", "(000)", "00 (1)", "(0" + "9" * 59 + ")",
                      "(-00)", "-01 (2)", "(0" + "1" * 60 + ")"])

    def test_nought_below_nought(self):
        self.refused(["(-0)", "-0 (1)", "(1 -0)", "0 -0 (1)"])

    def test_strokes(self):
        self.refused(["(-)", "- (1)", "(--1)", "--1 (2)", "(1-)", "(+1)", "+1 (2)", "(+0)", "(1 -)", "(- 1)", "-(1)",
                      "(-+1)", "(+-1)"])

    def test_more_than_sixty_figures(self):
        for figures in ["1" + "0" * 60, "9" * 61, "1" * 4299, "1" * 4301, "1" * 100000, "0" * 61, "0" * 5000]:
            self.refused(["(" + figures + ")", figures + " (1)", "(-" + figures + ")", "-" + figures + " (1)",
                          "(1 " + figures + ")"])

    def test_what_python_reads_as_a_number(self):
        self.refused(["(1_0)", "(1_000)", "1_0 (2)", "(0x1)", "(0b1)", "(1.0)", "(1e3)", "(1.)", "(.5)", "(1j)", "(nan)",
                      "(True)", "(None)", "(one)", "([], [1])", "([1])", "(1, 2)", "(1,2)"])

    def test_what_is_no_text(self):
        for wrong in NO_TEXTS:
            self.assertRaises(BadText, read, wrong)


class RefusedRows(unittest.TestCase):
    def test_no_row(self):
        for wrong in wrong_rows():
            self.assertRaises(BadRow, written, wrong)

    def test_signs_of_more_than_sixty_figures(self):
        for wrong in [SIXTY_ONE, -SIXTY_ONE, SIXTY_ONE + 1, 10 ** 61, -10 ** 100, 10 ** 4299, 10 ** 4300, -10 ** 5000,
                      10 ** 20000]:
            for row in [([], [wrong]), ([wrong], [0]), ([0, wrong, 0], [1]), ([], [0, wrong]), ([0], [wrong, 1])]:
                with self.assertRaises(BadRow):
                    written(row)

    def test_sixty_figures_are_written(self):
        for sign in [SIXTY, -SIXTY]:
            self.assertEqual(read(written(([sign], [0]))), ([sign], [0]))
            self.assertEqual(read(written(([], [sign]))), ([], [sign]))


class NothingShared(unittest.TestCase):
    def test_what_is_handed_in_stays(self):
        for row in [([], [1]), ([1], [1]), ([9, 2], [1, 2, 1, 2])]:
            before = copy.deepcopy(row)
            written(row)
            self.assertEqual(row, before)

    def test_what_is_told_is_new(self):
        for text in ["(1)", "1 (1)", "1 (2 3)"]:
            told = read(text)
            kept = copy.deepcopy(told)
            told[0].append(7)
            told[1].append(8)
            self.assertEqual(read(text), kept)


if __name__ == "__main__":
    unittest.main()

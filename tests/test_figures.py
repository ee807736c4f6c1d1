import copy
import unittest
from fractions import Fraction
from math import gcd

from leadround.errors import BadBase, BadFigures, BadFraction, BadRow
from leadround.figures import figured, fraction
from tests.support import HUGE, NO_WHOLE_NUMBERS, is_least, signs_of, tellings, words, wrong_rows

NO_BASES = NO_WHOLE_NUMBERS + [1, 0, -1, -2, -10, 1001, 1002, HUGE, -HUGE]
NO_BELOWS = NO_WHOLE_NUMBERS + [0, -1, -7, 1001, HUGE, -HUGE]


def whole_of(figures, base):
    return sum(figure * base ** turn for turn, figure in enumerate(reversed(figures)))


def plain_fraction(row, base):
    """What the row is worth: moved on by lead and round, and by the lead alone, it is the same behind the point."""
    near, far = len(row[0]), len(row[0]) + len(row[1])
    moved = whole_of(signs_of(row, far), base) - whole_of(signs_of(row, near), base)
    return Fraction(moved, base ** far - base ** near)


class FractionOfFigures(unittest.TestCase):
    def check(self, row, base, above, below):
        told = fraction(row, base)
        self.assertEqual(told, (above, below), (row, base))
        self.assertEqual([type(told)] + [type(part) for part in told], [tuple, int, int])

    def check_plain(self, row, base):
        worth = plain_fraction(row, base)
        self.check(row, base, worth.numerator, worth.denominator)

    def test_small_rows(self):
        for base, figures in [(2, [0, 1]), (3, [0, 1, 2]), (10, [0, 4, 9]), (1000, [0, 5, 999])]:
            for row in tellings(figures, 2, 3):
                self.check_plain(row, base)

    def test_as_it_stands(self):
        self.check(([], [3]), 10, 1, 3)
        self.check(([1], [6]), 10, 1, 6)
        self.check(([], [1, 4, 2, 8, 5, 7]), 10, 1, 7)
        self.check(([5], [0]), 10, 1, 2)
        self.check(([4], [9]), 10, 1, 2)
        self.check(([2, 5], [0]), 10, 1, 4)
        self.check(([], [0, 1]), 2, 1, 3)
        self.check(([], [1, 0]), 2, 2, 3)
        self.check(([500], [0]), 1000, 1, 2)
        self.check(([], [1]), 1000, 1, 999)
        self.check(([], [0, 1]), 1000, 1, 999999)

    def test_noughts_alone(self):
        for base in [2, 3, 10, 16, 999, 1000]:
            for row in [([], [0]), ([0], [0]), ([], [0, 0]), ([0, 0, 0], [0, 0])]:
                self.check(row, base, 0, 1)

    def test_the_greatest_figure_alone(self):
        for base in [2, 3, 10, 16, 999, 1000]:
            top = base - 1
            for row in [([], [top]), ([top], [top]), ([], [top, top]), ([top, top, top], [top, top])]:
                self.check(row, base, 1, 1)
            self.check(([0], [top]), base, 1, base)
            self.check(([0, 0], [top]), base, 1, base ** 2)

    def test_every_base(self):
        for base in range(2, 1001):
            self.check(([], [0, 1]), base, 1, base ** 2 - 1)
            self.check_plain(([base - 1, 0], [1, base - 1, base // 2]), base)

    def test_lowest_terms(self):
        for row in tellings([0, 2, 5], 2, 3):
            above, below = fraction(row, 10)
            self.assertEqual(gcd(above, below), 1)
            self.assertGreater(below, 0)

    def test_the_same_however_the_row_is_told(self):
        for row in [([1], [6]), ([1, 6], [6, 6]), ([1, 6, 6, 6], [6, 6, 6])]:
            self.check(row, 10, 1, 6)

    def test_long_rows(self):
        self.check(([0] * 3000, [9]), 10, 1, 10 ** 3000)
        self.check(([], [0] * 2999 + [1]), 10, 1, 10 ** 3000 - 1)
        self.check_plain(([3, 1, 4] * 200, [1, 5, 9, 2] * 200 + [6]), 10)


class FiguresOfFraction(unittest.TestCase):
    def check(self, above, below, base, row):
        self.assertEqual(figured(above, below, base), row, (above, below, base))

    def check_plain(self, above, below, base):
        why = (above, below, base)
        told = figured(above, below, base)
        self.assertEqual([type(told)] + [type(part) for part in told], [tuple, list, list])
        self.assertTrue(is_least(told), why)
        self.assertTrue(all(type(figure) is int and 0 <= figure < base for figure in told[0] + told[1]), why)
        self.assertNotEqual(told[1], [base - 1], why)
        worth = Fraction(above, below)
        self.assertEqual(fraction(told, base), (worth.numerator, worth.denominator), why)

    def test_small_fractions(self):
        for base in [2, 3, 10, 12, 1000]:
            for below in range(1, 41):
                for above in range(below):
                    self.check_plain(above, below, base)

    def test_figure_by_figure(self):
        for base in [2, 7, 10, 1000]:
            for below in range(1, 25):
                for above in range(below):
                    plain = [above * base ** (turn + 1) // below % base for turn in range(60)]
                    self.assertEqual(signs_of(figured(above, below, base), 60), plain, (above, below, base))

    def test_greater_fractions(self):
        for below in [97, 128, 243, 499, 500, 625, 720, 983, 997, 998, 999, 1000]:
            for above in [0, 1, 2, below // 2, below - 2, below - 1]:
                for base in [2, 3, 10, 999, 1000]:
                    self.check_plain(above, below, base)

    def test_nought(self):
        for base in [2, 10, 1000]:
            for below in [1, 2, 10, 999, 1000]:
                self.check(0, below, base, ([], [0]))

    def test_figures_that_come_to_an_end(self):
        self.check(1, 2, 10, ([5], [0]))
        self.check(1, 4, 10, ([2, 5], [0]))
        self.check(999, 1000, 10, ([9, 9, 9], [0]))
        self.check(1, 1000, 1000, ([1], [0]))
        self.check(999, 1000, 1000, ([999], [0]))
        self.check(1, 512, 2, ([0] * 8 + [1], [0]))
        self.check(1, 2, 2, ([1], [0]))
        self.check(1, 10, 10, ([1], [0]))
        self.check(1, 100, 10, ([0, 1], [0]))

    def test_figures_that_go_round(self):
        self.check(1, 3, 10, ([], [3]))
        self.check(1, 7, 10, ([], [1, 4, 2, 8, 5, 7]))
        self.check(6, 7, 10, ([], [8, 5, 7, 1, 4, 2]))
        self.check(1, 3, 2, ([], [0, 1]))
        self.check(1, 999, 1000, ([], [1]))
        self.check(998, 999, 1000, ([], [998]))
        self.check(1, 11, 10, ([], [0, 9]))

    def test_a_lead_and_a_round(self):
        self.check(1, 6, 10, ([1], [6]))
        self.check(1, 12, 10, ([0, 8], [3]))
        self.check(1, 6, 2, ([0], [0, 1]))
        self.check(5, 6, 2, ([1], [1, 0]))
        self.check(1, 990, 10, ([0], [0, 1]))

    def test_in_lowest_terms_or_not(self):
        for above, below in [(1, 2), (1, 3), (1, 6), (5, 7), (0, 1), (3, 8), (11, 12)]:
            for times in range(1, 1000 // below + 1):
                for base in [2, 10, 1000]:
                    self.assertEqual(figured(above * times, below * times, base), figured(above, below, base))

    def test_a_round_as_long_as_can_be(self):
        lead, circle = figured(1, 983, 10)
        self.assertEqual((lead, len(circle)), ([], 982))
        lead, circle = figured(1, 997, 1000)
        self.assertEqual((lead, circle[:3]), ([], [1, 3, 9]))

    def test_there_and_back(self):
        for base in [2, 3, 10]:
            for figures in words(list(range(min(base, 3))), 4)[1:]:
                above, below = fraction(([], figures), base)
                if below <= 1000 and above < below:
                    self.assertEqual(plain_fraction(figured(above, below, base), base), Fraction(above, below))


class Refusals(unittest.TestCase):
    def test_no_row(self):
        for wrong in wrong_rows():
            self.assertRaises(BadRow, fraction, wrong, 10)

    def test_no_base(self):
        for wrong in NO_BASES:
            self.assertRaises(BadBase, fraction, ([], [0]), wrong)
            self.assertRaises(BadBase, figured, 0, 1, wrong)

    def test_bases_just_within_and_just_beyond(self):
        for base in [2, 1000]:
            self.assertEqual(fraction(([], [1]), base), (1, base - 1))
            self.assertEqual(figured(0, 1, base), ([], [0]))
        for base in [1, 1001]:
            self.assertRaises(BadBase, fraction, ([], [0]), base)
            self.assertRaises(BadBase, figured, 0, 1, base)

    def test_no_figure(self):
        for base in [2, 10, 1000]:
            for wrong in [-1, -HUGE, base, base + 1, HUGE]:
                for row in [([], [wrong]), ([wrong], [0]), ([0], [0, wrong]), ([0, wrong, 0], [0]), ([0], [wrong, 0])]:
                    self.assertRaises(BadFigures, fraction, row, base)
            self.assertEqual(fraction(([0], [base - 1]), base), (1, base))
            self.assertEqual(fraction(([base - 1], [0]), base), (base - 1, base))

    def test_no_number_below(self):
        for wrong in NO_BELOWS:
            self.assertRaises(BadFraction, figured, 0, wrong, 10)
            self.assertRaises(BadFraction, figured, 1, wrong, 10)
            self.assertRaises(BadFraction, figured, wrong, wrong, 10)

    def test_no_number_above(self):
        for wrong in NO_WHOLE_NUMBERS + [-1, -HUGE, 7, 8, HUGE]:
            self.assertRaises(BadFraction, figured, wrong, 7, 10)

    def test_fractions_just_within_and_just_beyond(self):
        for below in [1, 2, 1000]:
            self.assertEqual(figured(0, below, 10), ([], [0]))
            self.assertEqual(plain_fraction(figured(below - 1, below, 10), 10), Fraction(below - 1, below))
            self.assertRaises(BadFraction, figured, -1, below, 10)
            self.assertRaises(BadFraction, figured, below, below, 10)
        for below in [0, 1001, -1]:
            self.assertRaises(BadFraction, figured, 0, below, 10)
        self.assertRaises(BadFraction, figured, 1000, 1001, 10)
        self.assertRaises(BadFraction, figured, -2, -1, 10)

    def test_which_of_two_is_told(self):
        for base in [1, 1001, None, True, "10", [10]]:
            self.assertRaises(BadRow, fraction, ([], []), base)
            self.assertRaises(BadRow, fraction, None, base)
            self.assertRaises(BadRow, fraction, ([-1], [True]), base)
            self.assertRaises(BadBase, fraction, ([-1], [2000]), base)
            self.assertRaises(BadFraction, figured, 1, 1, base)
            self.assertRaises(BadFraction, figured, None, 7, base)
            self.assertRaises(BadFraction, figured, 0, None, base)
        self.assertRaises(BadRow, fraction, ([99], [True]), 10)


class NothingShared(unittest.TestCase):
    def test_what_is_handed_in_stays(self):
        for row in [([], [1]), ([1, 6], [6, 6]), ([4], [9])]:
            before = copy.deepcopy(row)
            fraction(row, 10)
            self.assertEqual(row, before)

    def test_what_is_told_is_new(self):
        for above, below in [(0, 1), (1, 2), (1, 6)]:
            told = figured(above, below, 10)
            kept = copy.deepcopy(told)
            told[0].append(7)
            told[1].append(8)
            self.assertEqual(figured(above, below, 10), kept)


if __name__ == "__main__":
    unittest.main()

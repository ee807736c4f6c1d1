import copy
import unittest

from leadround.answers import Alike, Answer, Never, Stands, Unlike
from leadround.errors import BadRow, BadSigns
from leadround.rows import least
from leadround.telling import stands, unlike
from tests.support import (HUGE, NO_SIGN_LISTS, plain_stand, plain_unlike, signs_of, tellings, words, wrong_rows)

SMALL = tellings([0, 1], 2, 3)


class Told(unittest.TestCase):
    """What an answer is told to be: its class alone, with its fields, and true of what was asked."""

    def check_unlike(self, one, other, place):
        told = unlike(one, other)
        self.assertIs(type(told), Unlike, (one, other))
        self.assertIs(type(told.place), int)
        self.assertEqual(vars(told), {"place": place}, (one, other))
        self.assertIs(told.shows(one, other), True)

    def check_alike(self, one, other, row):
        told = unlike(one, other)
        self.assertIs(type(told), Alike, (one, other))
        self.assertEqual(vars(told), {"lead": row[0], "circle": row[1]}, (one, other))
        self.assertEqual([type(told.lead), type(told.circle)], [list, list])
        self.assertIs(told.shows(one, other), True)

    def check_both_ways(self, one, other, place):
        self.check_unlike(one, other, place)
        self.check_unlike(other, one, place)

    def check_stands(self, row, word, place):
        told = stands(row, word)
        self.assertIs(type(told), Stands, (row, word))
        self.assertIs(type(told.place), int)
        self.assertEqual(vars(told), {"place": place}, (row, word))
        self.assertIs(told.shows(row, word), True)

    def check_never(self, row, word):
        told = stands(row, word)
        self.assertIs(type(told), Never, (row, word))
        self.assertEqual(vars(told), {})
        self.assertIs(told.shows(row, word), True)


class TwoRows(Told):
    def test_all_small_rows(self):
        for one in SMALL:
            for other in SMALL:
                place = plain_unlike(one, other)
                if place is None:
                    self.check_alike(one, other, least(other))
                else:
                    self.check_unlike(one, other, place)

    def test_one_row_told_in_several_ways(self):
        ways = [([9], [1, 2]), ([9, 1], [2, 1]), ([9], [1, 2, 1, 2]), ([9, 1, 2, 1], [2, 1, 2, 1, 2, 1])]
        for one in ways:
            for other in ways:
                self.check_alike(one, other, ([9], [1, 2]))

    def test_the_same_row_twice(self):
        for row in SMALL + [([HUGE, -HUGE], [-1, 0, HUGE])]:
            self.check_alike(row, row, least(row))

    def test_unlike_in_the_lead(self):
        self.check_both_ways(([1, 2, 3], [4]), ([1, 5, 3], [4]), 1)
        self.check_both_ways(([1], [4]), ([], [4]), 0)
        self.check_both_ways(([4, 4, 4, 1], [4]), ([], [4]), 3)

    def test_unlike_in_the_round(self):
        self.check_both_ways(([1, 2], [3, 4]), ([1, 2], [3, 5]), 3)
        self.check_both_ways(([], [3]), ([], [-3]), 0)
        self.check_both_ways(([], [HUGE]), ([], [HUGE + 1]), 0)

    def test_unlike_some_rounds_behind_both_leads(self):
        # Rounds of 5 and 8 signs can be alike for 5 + 8 - 2 signs and yet part then.
        one, other = ([], [0, 1, 0, 0, 1]), ([], [0, 1, 0, 0, 1, 0, 1, 0])
        self.check_both_ways(one, other, 11)
        self.check_both_ways(([7] * 30, one[1]), ([7] * 30, other[1]), 41)
        self.check_both_ways(([], [1, 2]), ([1, 2] * 9, [1, 2, 1]), 21)
        self.check_both_ways(([], [0] * 100), ([], [0] * 100 + [1]), 100)
        self.check_both_ways(([], [0]), ([], [0] * 100 + [1]), 100)

    def test_long_rows(self):
        many = 50000
        self.check_both_ways(([], [0] * many + [1]), ([0], [0] * many + [1]), many)
        self.check_alike(([0] * many, [0] * many), ([], [0]), ([], [0]))

    def test_never_both(self):
        for one in tellings([0, 1], 1, 2):
            for other in tellings([0, 1], 1, 2):
                self.assertNotEqual(isinstance(unlike(one, other), Alike), isinstance(unlike(one, other), Unlike))
                self.assertIsInstance(unlike(one, other), Answer)


class Words(Told):
    def test_all_small_rows_and_words(self):
        for row in SMALL:
            for word in words([0, 1], 5) + [[2], [0, 2], [1] * 7, [0, 1] * 4, [1, 0, 0] * 3]:
                place = plain_stand(row, word)
                if place is None:
                    self.check_never(row, word)
                else:
                    self.check_stands(row, word, place)

    def test_each_word_of_a_row(self):
        row = ([5, 6, 5], [1, 2, 1, 3])
        signs = signs_of(row, 40)
        for start in range(12):
            for size in range(15):
                word = signs[start:start + size]
                told = stands(row, word)
                self.check_stands(row, word, plain_stand(row, word))
                for early in range(told.place):
                    self.assertNotEqual(signs[early:early + size], word)

    def test_each_word_with_one_sign_changed(self):
        row = ([5, 6, 5], [1, 2, 1, 3])
        signs = signs_of(row, 40)
        for start in range(8):
            for at in range(10):
                word = signs[start:start + 10]
                word[at] = 7
                self.check_never(row, word)
        self.check_never(row, [5, 6, 6])
        self.check_never(row, [1, 2, 1, 3, 1, 2, 1, 2])
        self.check_stands(row, [1, 2, 1, 3, 1, 2, 1, 3], 3)

    def test_from_the_lead_over_its_end_and_from_the_round(self):
        row = ([7, 8, 9], [1, 2, 3])
        self.check_stands(row, [7, 8], 0)
        self.check_stands(row, [9], 2)
        self.check_stands(row, [8, 9, 1, 2, 3, 1], 1)
        self.check_stands(row, [3], 5)
        self.check_stands(row, [3, 1], 5)
        self.check_stands(row, [2, 3, 1, 2, 3, 1, 2], 4)
        self.check_never(row, [9, 7])
        self.check_never(row, [3, 7])

    def test_longer_than_lead_and_round_together(self):
        row = ([7], [1, 2])
        self.check_stands(row, [7] + [1, 2] * 20, 0)
        self.check_stands(row, [2, 1] * 20, 2)
        self.check_never(row, [1, 2] * 20 + [2])
        self.check_never(row, [7] + [1, 2] * 20 + [7])

    def test_the_word_of_none(self):
        for row in SMALL:
            self.check_stands(row, [], 0)

    def test_signs_that_the_row_has_not(self):
        row = ([7], [1, 2])
        for word in [[0], [-1], [HUGE], [1, 2, 3], [3, 1, 2], [7, 0]]:
            self.check_never(row, word)

    def test_great_signs(self):
        row = ([HUGE], [-HUGE, HUGE])
        self.check_stands(row, [-HUGE], 1)
        self.check_stands(row, [HUGE, -HUGE], 0)
        self.check_never(row, [HUGE, HUGE])

    def test_a_row_told_longer_than_least(self):
        self.check_stands(([1, 2, 1, 2], [1, 2, 1, 2]), [2, 1], 1)
        self.check_never(([1, 2, 1, 2], [1, 2, 1, 2]), [2, 2])

    def test_long_rows_and_words(self):
        many = 50000
        self.check_stands(([], [0] * many + [1]), [0] * (many - 1) + [1], 1)
        self.check_never(([], [0] * many + [1]), [0] * (many + 1))


class Refusals(unittest.TestCase):
    def test_no_row(self):
        right = ([1], [2])
        for wrong in wrong_rows():
            self.assertRaises(BadRow, unlike, wrong, right)
            self.assertRaises(BadRow, unlike, right, wrong)
            self.assertRaises(BadRow, unlike, wrong, wrong)
            self.assertRaises(BadRow, stands, wrong, [1])

    def test_one_wrong_row_handed_in_twice(self):
        wrong = ([1], [True])
        self.assertRaises(BadRow, unlike, wrong, wrong)

    def test_no_list_of_signs(self):
        for wrong in NO_SIGN_LISTS:
            self.assertRaises(BadSigns, stands, ([1], [2]), wrong)

    def test_the_row_is_refused_first(self):
        for wrong in NO_SIGN_LISTS:
            self.assertRaises(BadRow, stands, ([1], []), wrong)
            self.assertRaises(BadRow, stands, None, wrong)


class NothingShared(unittest.TestCase):
    ROWS = [([], [1]), ([1], [2]), ([1, 2], [1, 2]), ([9], [1, 2, 1, 2]), ([4], [5, 6, 5]), ([1, 1], [1])]

    def test_what_is_handed_in_stays(self):
        for one in self.ROWS:
            for other in self.ROWS:
                before = copy.deepcopy((one, other))
                unlike(one, other)
                stands(one, other[1])
                self.assertEqual((one, other), before)

    def test_the_fields_are_new(self):
        for row in self.ROWS:
            before = copy.deepcopy(row)
            told = unlike(row, row)
            told.lead.append(77)
            told.circle.append(88)
            self.assertEqual(row, before)
            again = unlike(row, row)
            self.assertEqual((again.lead, again.circle), least(row))

    def test_nothing_is_kept(self):
        one, other, word = ([1], [2]), ([1], [2, 2]), [2]
        alike, found = unlike(one, other), stands(one, word)
        one[0].append(3)
        other[1].append(4)
        word.append(5)
        self.assertEqual((alike.lead, alike.circle, found.place), ([1], [2], 1))
        self.assertEqual(unlike(one, other).place, 1)
        self.assertIs(type(stands(one, word)), Never)


if __name__ == "__main__":
    unittest.main()

import copy
import unittest

from leadround.answers import Alike, Answer, Never, Stands, Unlike
from leadround.rows import least
from tests.support import HUGE, plain_stand, plain_unlike, tellings, words

SMALL = tellings([0, 1], 2, 3)


class Shapes(unittest.TestCase):
    def test_each_is_straight_under_answer(self):
        for kind in [Alike, Unlike, Stands, Never]:
            self.assertEqual(kind.__bases__, (Answer,))
        self.assertEqual(Answer.__bases__, (object,))

    def test_fields(self):
        alike = Alike([1, 2], [3])
        self.assertEqual((alike.lead, alike.circle), ([1, 2], [3]))
        self.assertEqual(Unlike(5).place, 5)
        self.assertEqual(Stands(HUGE).place, HUGE)
        self.assertEqual(vars(Never()), {})

    def test_fields_by_name(self):
        alike = Alike(lead=[], circle=[3])
        self.assertEqual((alike.lead, alike.circle), ([], [3]))
        self.assertEqual(Unlike(place=5).place, 5)
        self.assertEqual(Stands(place=6).place, 6)

    def test_lists_are_copied(self):
        lead, circle = [1], [2]
        alike = Alike(lead, circle)
        lead.append(7)
        circle.append(8)
        self.assertEqual((alike.lead, alike.circle), ([1], [2]))
        alike.lead.append(5)
        alike.circle.append(6)
        self.assertEqual((lead, circle), ([1, 7], [2, 8]))

    def test_one_list_for_both_fields_is_copied_twice(self):
        signs = [1]
        alike = Alike(signs, signs)
        alike.lead.append(2)
        self.assertEqual((alike.circle, signs), ([1], [1]))

    def test_truths(self):
        one, other = ([], [1]), ([], [2])
        for truth in [Alike([], [1]).shows(one, one), Unlike(0).shows(one, other),
                      Stands(0).shows(one, [1]), Never().shows(one, [2])]:
            self.assertIs(truth, True)
        for lie in [Alike([], [1]).shows(one, other), Alike([], []).shows(one, one), Unlike(0).shows(one, one),
                    Unlike(-1).shows(one, other), Stands(-1).shows(one, [1]), Stands(0).shows(one, [2]),
                    Never().shows(one, [1])]:
            self.assertIs(lie, False)


class AlikeShows(unittest.TestCase):
    def test_all_small_rows(self):
        for one in SMALL:
            told = least(one)
            for other in SMALL:
                alike = Alike(told[0], told[1]).shows(one, other)
                self.assertEqual(alike, plain_unlike(one, other) is None, (one, other))

    def test_each_other_telling_is_false(self):
        for row in SMALL:
            for lead, circle in SMALL:
                self.assertEqual(Alike(lead, circle).shows(row, row), (lead, circle) == least(row), (lead, circle, row))

    def test_not_least(self):
        row = ([9], [1, 2])
        self.assertTrue(Alike([9], [1, 2]).shows(row, ([9, 1], [2, 1, 2, 1])))
        for lead, circle in [([9, 1], [2, 1]), ([9], [1, 2, 1, 2]), ([9, 1, 2], [1, 2])]:
            self.assertFalse(Alike(lead, circle).shows((lead, circle), (lead, circle)))
            self.assertFalse(Alike(lead, circle).shows(row, row))

    def test_a_sign_changed_put_in_or_left_out(self):
        row = ([9, 8], [1, 2, 3])
        for lead, circle in [([9, 7], [1, 2, 3]), ([9, 8], [1, 2, 4]), ([9, 8, 8], [1, 2, 3]), ([9, 8], [1, 2, 3, 3]),
                             ([9], [1, 2, 3]), ([9, 8], [1, 2]), ([], [1, 2, 3]), ([9, 8], []), ([], []),
                             ([9, 8], [2, 3, 1])]:
            self.assertFalse(Alike(lead, circle).shows(row, row), (lead, circle))

    def test_true_of_one_alone_is_false(self):
        one, other = ([9], [1]), ([9], [2])
        for alike in [Alike([9], [1]), Alike([9], [2])]:
            self.assertFalse(alike.shows(one, other))
            self.assertFalse(alike.shows(other, one))

    def test_by_the_fields_as_they_stand_then(self):
        row = ([9], [1, 2])
        alike = Alike([9], [1, 2])
        alike.lead.append(1)
        self.assertFalse(alike.shows(row, row))
        alike.lead = [9]
        self.assertTrue(alike.shows(row, row))
        alike.circle[0] = 2
        self.assertFalse(alike.shows(row, row))
        alike.circle = [1, 2]
        self.assertTrue(alike.shows(row, row))
        alike.circle = []
        self.assertFalse(alike.shows(row, row))

    def test_true_is_no_sign(self):
        self.assertFalse(Alike([], [True]).shows(([], [1]), ([], [1])))


class UnlikeShows(unittest.TestCase):
    def test_all_small_rows(self):
        for one in SMALL:
            for other in SMALL:
                first = plain_unlike(one, other)
                told = [place for place in range(-3, 20) if Unlike(place).shows(one, other)]
                self.assertEqual(told, [] if first is None else [first], (one, other))

    def test_the_first_place_alone(self):
        one, other = ([1, 2, 3], [4]), ([1, 2, 5], [6])
        self.assertEqual([Unlike(place).shows(one, other) for place in range(5)], [False, False, True, False, False])

    def test_below_nought_and_far(self):
        one, other = ([1], [2]), ([1], [3])
        for place in [-1, -2, -HUGE, HUGE, HUGE ** 9]:
            self.assertFalse(Unlike(place).shows(one, other))
            self.assertFalse(Unlike(place).shows(one, one))

    def test_alike_for_as_long_as_two_rounds_can_be(self):
        # Rounds of 5 and 8 signs can be alike for 5 + 8 - 2 signs and yet part then.
        one, other = ([], [0, 1, 0, 0, 1]), ([], [0, 1, 0, 0, 1, 0, 1, 0])
        self.assertEqual(plain_unlike(one, other), 11)
        for place in range(20):
            self.assertEqual(Unlike(place).shows(one, other), place == 11)
            self.assertEqual(Unlike(place + 30).shows(([7] * 30 + one[0], one[1]), ([7] * 30, other[1])), place == 11)

    def test_a_long_lead_that_the_other_tells_by_its_round(self):
        one, other = ([1, 2] * 50000, [3]), ([], [1, 2])
        self.assertTrue(Unlike(100000).shows(one, other))
        self.assertTrue(Unlike(100000).shows(other, one))
        self.assertFalse(Unlike(99999).shows(one, other))

    def test_by_the_field_as_it_stands_then(self):
        one, other = ([1, 2], [3]), ([1, 2], [4])
        unlike = Unlike(2)
        self.assertTrue(unlike.shows(one, other))
        unlike.place = 3
        self.assertFalse(unlike.shows(one, other))
        unlike.place = 2
        self.assertTrue(unlike.shows(one, other))

    def test_true_is_no_place(self):
        self.assertFalse(Unlike(True).shows(([1], [2]), ([1], [3])))
        self.assertFalse(Unlike(False).shows(([], [2]), ([], [3])))


class StandsAndNeverShow(unittest.TestCase):
    def test_all_small_rows_and_words(self):
        for row in SMALL:
            for word in words([0, 1], 5) + [[2], [0, 2], [1, 1, 1, 1, 1, 1, 1], [0, 1] * 4, [1, 0, 0] * 3]:
                first = plain_stand(row, word)
                told = [place for place in range(-3, 12) if Stands(place).shows(row, word)]
                self.assertEqual(told, [] if first is None else [first], (row, word))
                self.assertEqual(Never().shows(row, word), first is None, (row, word))

    def test_words_that_begin_and_break_off_ahead_of_the_whole(self):
        for word in words([0, 1], 7):
            for many in range(len(word) + 1):
                row = (word[:many] + word, [2])
                first = plain_stand(row, word)
                self.assertTrue(Stands(first).shows(row, word), (row, word))
                self.assertFalse(Stands(first + 1).shows(row, word), (row, word))
                self.assertFalse(Never().shows(row, word), (row, word))

    def test_the_word_of_none_stands_at_the_first_place(self):
        for row in [([], [1]), ([1, 2], [3])]:
            self.assertEqual([Stands(place).shows(row, []) for place in [-1, 0, 1, 2]], [False, True, False, False])
            self.assertFalse(Never().shows(row, []))

    def test_a_word_longer_than_lead_and_round(self):
        row = ([9, 1], [2, 3, 1])
        for word, first in [([9] + [1, 2, 3] * 5, 0), ([1, 2, 3] * 5, 1), ([3, 1, 2] * 5 + [3], 3),
                            ([3, 1, 2] * 5 + [1], None), ([9, 1, 2, 3, 1, 2, 3, 9], None)]:
            for place in range(-1, 8):
                self.assertEqual(Stands(place).shows(row, word), place == first, (word, place))
            self.assertEqual(Never().shows(row, word), first is None, word)

    def test_at_the_last_place_that_can_be_first(self):
        row = ([7, 7, 7], [1, 2, 3, 4])
        self.assertTrue(Stands(6).shows(row, [4, 1, 2, 3, 4, 1, 2, 3]))
        self.assertFalse(Stands(10).shows(row, [4, 1, 2, 3, 4, 1, 2, 3]))

    def test_below_nought_and_far(self):
        row = ([5], [1, 2])
        for place in [-1, -2, -HUGE, HUGE, HUGE + 1, HUGE ** 9]:
            self.assertFalse(Stands(place).shows(row, [1]))
            self.assertFalse(Stands(place).shows(row, [3]))

    def test_great_and_negative_signs(self):
        row = ([HUGE], [-HUGE, 0])
        self.assertTrue(Stands(1).shows(row, [-HUGE]))
        self.assertTrue(Never().shows(row, [HUGE + 1]))
        self.assertTrue(Never().shows(row, [-HUGE, HUGE]))

    def test_long_rows_and_words(self):
        many = 50000
        row = ([], [0] * many + [1])
        self.assertTrue(Stands(1).shows(row, [0] * (many - 1) + [1]))
        self.assertTrue(Never().shows(row, [0] * (many + 1)))
        self.assertTrue(Never().shows(([], [0] * many), [0] * many + [1]))

    def test_by_the_field_as_it_stands_then(self):
        row = ([5], [1, 2])
        stands = Stands(2)
        self.assertTrue(stands.shows(row, [2]))
        stands.place = 4
        self.assertFalse(stands.shows(row, [2]))
        stands.place = 1
        self.assertTrue(stands.shows(row, [1, 2]))

    def test_true_is_no_place(self):
        self.assertFalse(Stands(True).shows(([5], [1]), [1]))
        self.assertFalse(Stands(False).shows(([5], [1]), [5]))


class NothingChanged(unittest.TestCase):
    def test_what_is_handed_in_and_the_fields_stay(self):
        one, other, word = ([9, 2], [1, 2, 1, 2]), ([9, 2, 1], [2, 1]), [1, 2]
        before = copy.deepcopy((one, other, word))
        alike = Alike([9], [2, 1])
        for _ in range(2):
            self.assertTrue(alike.shows(one, other))
            self.assertFalse(Unlike(0).shows(one, other))
            self.assertTrue(Stands(2).shows(one, word))
            self.assertFalse(Never().shows(one, word))
        self.assertEqual((one, other, word), before)
        self.assertEqual((alike.lead, alike.circle), ([9], [2, 1]))


if __name__ == "__main__":
    unittest.main()

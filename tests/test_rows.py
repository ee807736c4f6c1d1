import copy
import unittest

from leadround.errors import BadPlace, BadRow, BadSigns
from leadround.rows import begin, least, often, told_at
from tests.support import FAR, HUGE, NO_PLACES, NO_WHOLE_NUMBERS, signs_of, tellings, words, wrong_rows


def by_signs(rows):
    """The tellings, put together by the row that they tell."""
    groups = {}
    for row in rows:
        groups.setdefault(tuple(signs_of(row, FAR)), []).append(row)
    return groups


class Least(unittest.TestCase):
    def check(self, row, lead, circle):
        self.assertEqual(least(row), (lead, circle))

    def test_a_round_gone_round_several_times(self):
        self.check(([], [1, 2, 1, 2, 1, 2]), [], [1, 2])
        self.check(([9], [1, 2, 3] * 5), [9], [1, 2, 3])
        self.check(([9, 8], [4] * 7), [9, 8], [4])

    def test_each_small_round_gone_round_more_than_once(self):
        for circle in words([0, 1], 8)[1:]:
            steps = [step for step in range(1, len(circle) + 1) if circle[:step] * (len(circle) // step) == circle]
            for times in [1, 2, 3]:
                self.check(([], circle * times), [], circle[:steps[0]])

    def test_a_round_that_only_begins_again_stays(self):
        self.check(([], [1, 2, 1]), [], [1, 2, 1])
        self.check(([], [1, 2, 1, 2, 1]), [], [1, 2, 1, 2, 1])
        self.check(([], [1, 1, 2, 1, 1]), [], [1, 1, 2, 1, 1])
        self.check(([], [1, 1, 1, 2]), [], [1, 1, 1, 2])

    def test_a_lead_that_ends_as_the_round_goes(self):
        self.check(([9, 2], [1, 2]), [9], [2, 1])
        self.check(([9, 1, 2], [1, 2]), [9], [1, 2])
        self.check(([2, 1, 2, 1, 2], [1, 2]), [], [2, 1])
        self.check(([3, 1, 2, 3], [1, 2, 3]), [], [3, 1, 2])
        self.check(([2, 3, 1, 2, 3], [1, 2, 3]), [], [2, 3, 1])

    def test_both_at_once(self):
        self.check(([7, 2, 1, 2], [1, 2, 1, 2]), [7], [2, 1])
        self.check(([5, 5, 5], [5, 5]), [], [5])
        self.check(([1, 2, 3, 1], [2, 3, 1, 2, 3, 1]), [], [1, 2, 3])

    def test_a_lead_that_ends_otherwise_stays(self):
        self.check(([1], [1, 2]), [1], [1, 2])
        self.check(([2, 1], [1, 2]), [2, 1], [1, 2])

    def test_a_lead_of_none_and_a_round_of_one(self):
        self.check(([], [0]), [], [0])
        self.check(([0], [0]), [], [0])
        self.check(([1], [0]), [1], [0])
        self.check(([0, 1, 0, 0], [0]), [0, 1], [0])

    def test_great_and_negative_signs(self):
        self.check(([-1, HUGE], [-HUGE, HUGE] * 2), [-1], [HUGE, -HUGE])
        self.check(([HUGE + 1], [HUGE]), [HUGE + 1], [HUGE])
        self.check(([-1], [1]), [-1], [1])
        self.check(([], [2 ** 64, 2 ** 64 + 1, 2 ** 64]), [], [2 ** 64, 2 ** 64 + 1, 2 ** 64])

    def test_of_all_small_tellings_of_a_row_it_is_the_one_with_the_shortest(self):
        for group in by_signs(tellings([0, 1], 3, 4) + tellings([0, 1, 2], 2, 3)).values():
            lead = min(len(row[0]) for row in group)
            circle = min(len(row[1]) for row in group)
            for row in group:
                told = least(row)
                self.assertEqual(told, least(group[0]), row)
                self.assertEqual((len(told[0]), len(told[1])), (lead, circle), row)
                self.assertEqual(signs_of(told, FAR), signs_of(row, FAR), row)

    def test_the_least_of_the_least_is_itself(self):
        for row in tellings([0, 1], 3, 4):
            self.assertEqual(least(least(row)), least(row), row)

    def test_the_same_from_every_longer_telling(self):
        for row in tellings([0, 1], 2, 3):
            for more in range(8):
                for times in range(1, 4):
                    signs = signs_of(row, len(row[0]) + more + len(row[1]) * times)
                    at = len(row[0]) + more
                    self.assertEqual(least((signs[:at], signs[at:])), least(row), (row, more, times))

    def test_it_is_a_tuple_of_two_lists(self):
        for row in [([], [1]), ([1, 2], [2]), ([1], [2, 3, 2, 3])]:
            told = least(row)
            self.assertIs(type(told), tuple)
            self.assertEqual([type(part) for part in told], [list, list])

    def test_long_tellings(self):
        many = 100000
        self.check(([0] * many, [0] * many), [], [0])
        self.check(([], [0] * many + [1]), [], [0] * many + [1])
        self.check(([3] + [1, 2] * many, [1, 2] * many), [3], [1, 2])
        self.check(([2] + [0] * many, [0] * many + [1]), [2] + [0] * many, [0] * many + [1])


class Places(unittest.TestCase):
    def test_told_at_each_near_place(self):
        for row in tellings([0, 1], 3, 3) + [([], [-5]), ([HUGE, -HUGE], [3, HUGE])]:
            signs = signs_of(row, 20)
            self.assertEqual([told_at(row, place) for place in range(20)], signs, row)

    def test_told_at_the_end_of_the_lead_and_in_the_round(self):
        row = ([10, 11, 12], [20, 21])
        self.assertEqual([told_at(row, place) for place in [0, 2, 3, 4, 5, 6]], [10, 12, 20, 21, 20, 21])

    def test_told_at_far_places(self):
        row = ([10, 11, 12], [20, 21, 22])
        self.assertEqual(told_at(row, 3 + 3 * HUGE), 20)
        self.assertEqual(told_at(row, 3 + 3 * HUGE + 1), 21)
        self.assertEqual(told_at(row, 3 + 3 * HUGE - 1), 22)
        # 10 ** 30 is 1 more than a number that 3 divides.
        self.assertEqual(told_at(row, HUGE), 21)
        self.assertEqual(told_at(([], [7]), HUGE ** 20), 7)
        self.assertEqual(told_at(([], list(range(1000))), HUGE + 417), 417)

    def test_begin(self):
        for row in tellings([0, 1], 3, 3) + [([], [-5]), ([HUGE, -HUGE], [3, HUGE])]:
            for many in range(15):
                self.assertEqual(begin(row, many), signs_of(row, many), (row, many))

    def test_begin_of_none(self):
        self.assertEqual(begin(([], [1]), 0), [])
        self.assertEqual(begin(([1, 2], [1]), 0), [])

    def test_begin_of_many(self):
        told = begin(([1], [2, 3]), 200002)
        self.assertEqual((len(told), told[:4], told[-2:]), (200002, [1, 2, 3, 2], [3, 2]))

    def test_often_near(self):
        for row in tellings([0, 1], 3, 3):
            for many in range(15):
                for sign in [-1, 0, 1, 2]:
                    self.assertEqual(often(row, sign, many), signs_of(row, many).count(sign), (row, sign, many))

    def test_often_of_none(self):
        for sign in [-1, 0, 1, HUGE]:
            self.assertEqual(often(([1], [0, 1]), sign, 0), 0)

    def test_often_far(self):
        row = ([5, 1, 5], [1, 2, 1, 5])
        self.assertEqual(often(row, 5, 3 + 4 * HUGE), 2 + HUGE)
        self.assertEqual(often(row, 1, 3 + 4 * HUGE), 1 + 2 * HUGE)
        self.assertEqual(often(row, 1, 3 + 4 * HUGE + 1), 2 + 2 * HUGE)
        self.assertEqual(often(row, 2, 3 + 4 * HUGE + 1), HUGE)
        self.assertEqual(often(row, 2, 3 + 4 * HUGE + 2), HUGE + 1)
        self.assertEqual(often(row, 5, 3 + 4 * HUGE + 3), 2 + HUGE)
        self.assertEqual(often(row, 9, HUGE), 0)
        self.assertEqual(often(([], [7]), 7, HUGE), HUGE)

    def test_often_of_great_and_negative_signs(self):
        self.assertEqual(often(([HUGE], [-HUGE, HUGE]), HUGE, 4), 2)
        self.assertEqual(often(([HUGE], [-HUGE, HUGE]), -HUGE, 4), 2)


class Refusals(unittest.TestCase):
    def test_no_row(self):
        for wrong in wrong_rows():
            for asked in [least, lambda row: told_at(row, 0), lambda row: begin(row, 0), lambda row: often(row, 0, 0)]:
                self.assertRaises(BadRow, asked, wrong)

    def test_a_wrong_sign_behind_many_right_ones(self):
        self.assertRaises(BadRow, least, ([1] * 1000 + [True], [1]))
        self.assertRaises(BadRow, told_at, ([1], [1] * 1000 + [False]), 0)
        self.assertRaises(BadRow, begin, ([1], [1] * 1000 + [1.0]), 1)

    def test_no_place(self):
        row = ([1], [2, 3])
        for wrong in NO_PLACES:
            self.assertRaises(BadPlace, told_at, row, wrong)
            self.assertRaises(BadPlace, begin, row, wrong)
            self.assertRaises(BadPlace, often, row, 1, wrong)

    def test_no_sign(self):
        for wrong in NO_WHOLE_NUMBERS:
            self.assertRaises(BadSigns, often, ([1], [2, 3]), wrong, 3)

    def test_the_row_is_refused_first(self):
        for wrong in [None, ([], []), ([True], [1])]:
            self.assertRaises(BadRow, told_at, wrong, -1)
            self.assertRaises(BadRow, begin, wrong, True)
            self.assertRaises(BadRow, often, wrong, True, -1)
            self.assertRaises(BadRow, often, wrong, 1, -1)
            self.assertRaises(BadRow, often, wrong, True, 1)

    def test_the_sign_is_refused_ahead_of_the_place(self):
        self.assertRaises(BadSigns, often, ([1], [2]), True, -1)
        self.assertRaises(BadSigns, often, ([1], [2]), None, None)


class NothingShared(unittest.TestCase):
    ROWS = [([], [1]), ([1], [2]), ([1, 2], [1, 2]), ([9], [1, 2, 1, 2]), ([4], [5, 6, 5]), ([1, 1], [1])]

    def test_what_is_handed_in_stays(self):
        for row in self.ROWS:
            before = copy.deepcopy(row)
            least(row)
            told_at(row, 7)
            begin(row, 7)
            often(row, 1, 7)
            self.assertEqual(row, before)

    def test_the_least_is_new(self):
        for row in self.ROWS:
            before = copy.deepcopy(row)
            told = least(row)
            told[0].append(77)
            told[1].append(88)
            self.assertEqual(row, before)
            self.assertNotEqual(least(row), told)

    def test_the_least_of_one_list_for_both(self):
        signs = [3, 4]
        told = least((signs, signs))
        self.assertEqual(told, ([], [3, 4]))
        told[1].append(5)
        self.assertEqual(signs, [3, 4])

    def test_begin_is_new(self):
        for row in self.ROWS:
            for many in range(6):
                before = copy.deepcopy(row)
                begin(row, many).append(99)
                self.assertEqual(row, before)
                self.assertNotIn(99, begin(row, many))

    def test_nothing_is_kept(self):
        row = ([1], [2])
        least(row), begin(row, 5), told_at(row, 5), often(row, 2, 5)
        row[1][0] = 1
        self.assertEqual(least(row), ([], [1]))
        self.assertEqual(begin(row, 3), [1, 1, 1])
        self.assertEqual(told_at(row, 5), 1)
        self.assertEqual(often(row, 1, 5), 5)


if __name__ == "__main__":
    unittest.main()

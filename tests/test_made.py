import copy
import unittest

from leadround.errors import BadPlace, BadRow, BadSigns
from leadround.made import added, ahead, behind, every, woven
from leadround.rows import least
from tests.support import (HUGE, NO_LISTS, NO_PLACES, NO_SIGN_LISTS, is_least, sign_of, signs_of, tellings, words,
                           wrong_rows)

ROWS = tellings([0, 1], 2, 3) + [([5, 6, 7], [1, 2, 3, 4, 5, 6]), ([9], [1, 2, 1, 3]), ([], [HUGE, -HUGE, 0])]
LONG = ([10, 11, 12, 13, 14], [20, 21, 22, 23, 24, 25])


class Made(unittest.TestCase):
    def check(self, told, signs, why=None):
        """The row that is told is least, and begins with the signs, which are to go on far enough."""
        self.assertIs(type(told), tuple, why)
        self.assertEqual([type(part) for part in told], [list, list], why)
        self.assertTrue(is_least(told), (told, why))
        self.assertGreater(len(signs), len(told[0]) + 2 * len(told[1]))
        self.assertEqual(signs_of(told, len(signs)), signs, why)


class Every(Made):
    def check_every(self, row, start, step, many=40):
        self.check(every(row, start, step), [sign_of(row, start + step * turn) for turn in range(many)],
                   (row, start, step))

    def test_small_starts_and_steps(self):
        for row in ROWS:
            for start in range(10):
                for step in range(1, 10):
                    self.check_every(row, start, step)

    def test_as_it_stands(self):
        self.assertEqual(every(LONG, 0, 2), ([10, 12, 14], [21, 23, 25]))
        self.assertEqual(every(LONG, 1, 3), ([11, 14], [22, 25]))
        self.assertEqual(every(LONG, 4, 6), ([14], [25]))
        self.assertEqual(every(LONG, 5, 1), ([], [20, 21, 22, 23, 24, 25]))
        self.assertEqual(every(LONG, 5, 5), ([], [20, 25, 24, 23, 22, 21]))
        self.assertEqual(every(LONG, 6, 7), ([], [21, 22, 23, 24, 25, 20]))
        self.assertEqual(every(([], [1, 2, 1, 3]), 0, 2), ([], [1]))

    def test_start_0_and_step_1_tell_the_row_least(self):
        for row in ROWS:
            self.assertEqual(every(row, 0, 1), least(row))

    def test_starts_in_the_lead_at_its_end_in_the_round_and_behind(self):
        for start in [0, 1, 4, 5, 6, 10, 11, 500]:
            for step in [1, 2, 3, 4, 5, 6, 7, 12, 13, 600]:
                self.check_every(LONG, start, step)

    def test_far_starts_and_steps(self):
        for row in [LONG, ([], [1]), ([1], [2]), ([9], list(range(7)))]:
            for start in [0, 1, 4, 5, HUGE, HUGE + 1, HUGE ** 3]:
                for step in [1, 2, 6, HUGE, HUGE + 1, 6 * HUGE, HUGE ** 3]:
                    self.check_every(row, start, step)

    def test_far_as_it_stands(self):
        row = ([9, 8], [0, 1, 2])
        # 10 ** 30 is 1 more than a number that 3 divides.
        self.assertEqual(every(row, 0, HUGE), ([9], [2, 0, 1]))
        self.assertEqual(every(row, HUGE, 1), ([], [2, 0, 1]))
        self.assertEqual(every(row, 1, 3 * HUGE), ([8], [2]))

    def test_long_rows(self):
        many = 20000
        row = (list(range(many)), list(range(many)))
        told = every(row, 1, 2)
        self.assertEqual((len(told[0]), told[1][:2]), (0, [1, 3]))
        self.assertEqual(every(row, many - 1, many), ([], [many - 1]))


class Behind(Made):
    def test_near_places(self):
        for row in ROWS + [LONG]:
            signs = signs_of(row, 80)
            for place in range(15):
                self.check(behind(row, place), signs[place:place + 60], (row, place))

    def test_as_it_stands(self):
        self.assertEqual(behind(LONG, 0), LONG)
        self.assertEqual(behind(LONG, 3), ([13, 14], [20, 21, 22, 23, 24, 25]))
        self.assertEqual(behind(LONG, 5), ([], [20, 21, 22, 23, 24, 25]))
        self.assertEqual(behind(LONG, 7), ([], [22, 23, 24, 25, 20, 21]))
        self.assertEqual(behind(LONG, 5 + 6 * 100 + 5), ([], [25, 20, 21, 22, 23, 24]))

    def test_far_places(self):
        self.assertEqual(behind(LONG, 5 + 6 * HUGE), ([], [20, 21, 22, 23, 24, 25]))
        self.assertEqual(behind(LONG, 5 + 6 * HUGE + 1), ([], [21, 22, 23, 24, 25, 20]))
        self.assertEqual(behind(LONG, 5 + 6 * HUGE - 1), ([], [25, 20, 21, 22, 23, 24]))
        self.assertEqual(behind(([9, 8], [0, 1, 2]), HUGE), ([], [2, 0, 1]))
        self.assertEqual(behind(([1], [2]), HUGE), ([], [2]))


class Woven(Made):
    def check_woven(self, rows, many=60):
        signs = [sign_of(row, place) for place in range(many) for row in rows]
        self.check(woven(rows), signs, rows)

    def test_one_row(self):
        for row in ROWS:
            self.assertEqual(woven([row]), least(row))

    def test_two_rows(self):
        for one in ROWS:
            for other in ROWS[::3] + ROWS[-3:]:
                self.check_woven([one, other])

    def test_three_rows(self):
        for one in ROWS[::7]:
            for two in ROWS[::11]:
                for three in ROWS[::9]:
                    self.check_woven([one, two, three])

    def test_as_it_stands(self):
        self.assertEqual(woven([([], [1]), ([], [2])]), ([], [1, 2]))
        self.assertEqual(woven([([1, 2], [3]), ([4], [5, 6])]), ([1, 4, 2], [5, 3, 6, 3]))
        self.assertEqual(woven([([], [2]), ([1], [2])]), ([2, 1], [2]))
        self.assertEqual(woven([([], [1, 3]), ([], [2, 4])]), ([], [1, 2, 3, 4]))
        self.assertEqual(woven([([], [1, 2, 3]), ([], [2, 3, 1]), ([], [3, 1, 2])]), ([], [1, 2, 3, 2, 3, 1, 3, 1, 2]))

    def test_a_round_shorter_than_its_parts(self):
        # The signs 0 1 2 go round; each second one of them is a round of three too.
        self.assertEqual(woven([([], [0, 2, 1]), ([], [1, 0, 2])]), ([], [0, 1, 2]))

    def test_one_row_several_times(self):
        row = ([9], [1, 2])
        self.assertEqual(woven([row, row]), ([9, 9], [1, 1, 2, 2]))
        self.assertEqual(woven([row, row, row]), ([9, 9, 9], [1, 1, 1, 2, 2, 2]))
        self.assertEqual(woven([([], [4])] * 7), ([], [4]))

    def test_the_order_counts(self):
        one, other = ([1], [2]), ([3], [4, 5])
        self.assertNotEqual(woven([one, other]), woven([other, one]))

    def test_unlike_lengths(self):
        self.check_woven([([0] * 9, [1, 2, 3, 4]), ([], [5, 6, 7, 8, 9, 10])], 80)
        self.check_woven([([1], [2]), ([], [1, 2, 3, 4, 5]), ([1, 2, 3], [4, 5, 6, 7])], 120)

    def test_rounds_told_far_too_long(self):
        sizes = [997, 991, 983]
        rows = [([size] * size, [size] * size) for size in sizes]
        self.assertEqual(woven(rows), ([], sizes))

    def test_each_of_many_is_every_so_many_th_of_the_woven(self):
        rows = ROWS[::5]
        told = woven(rows)
        for turn, row in enumerate(rows):
            self.assertEqual(every(told, turn, len(rows)), least(row))


class Added(Made):
    def check_added(self, one, other, many=60):
        signs = [sign_of(one, place) + sign_of(other, place) for place in range(many)]
        self.check(added(one, other), signs, (one, other))

    def test_small_rows(self):
        for one in ROWS:
            for other in ROWS:
                self.check_added(one, other)

    def test_as_it_stands(self):
        self.assertEqual(added(([1], [2]), ([10, 20], [30])), ([11, 22], [32]))
        self.assertEqual(added(([], [1, 2]), ([], [10, 20, 30])), ([], [11, 22, 31, 12, 21, 32]))
        self.assertEqual(added(([], [1, 2]), ([], [2, 1])), ([], [3]))
        self.assertEqual(added(([7], [1, 2]), ([-4], [2, 1])), ([], [3]))

    def test_below_0_and_great(self):
        self.assertEqual(added(([], [-5, 3]), ([], [2])), ([], [-3, 5]))
        self.assertEqual(added(([HUGE], [-HUGE]), ([HUGE ** 2], [-1])), ([HUGE + HUGE ** 2], [-HUGE - 1]))
        self.assertEqual(added(([], [HUGE, 1]), ([], [-HUGE, -1])), ([], [0]))

    def test_unlike_lengths(self):
        self.check_added(([0] * 9, [1, 2, 3, 4]), ([], [5, 6, 7, 8, 9, 10]))
        self.check_added(([1], [1, 2, 3, 4, 5, 6, 7]), ([1, 2, 3], [1, 2, 3, 5, 8]), 120)

    def test_exchanged(self):
        for one in ROWS[::4]:
            for other in ROWS[::3]:
                self.assertEqual(added(one, other), added(other, one))

    def test_the_same_row_twice(self):
        for row in ROWS:
            told = least(row)
            self.assertEqual(added(row, row), ([2 * sign for sign in told[0]], [2 * sign for sign in told[1]]))

    def test_rounds_told_far_too_long(self):
        self.assertEqual(added(([], [1] * 9973), ([], [2] * 9967)), ([], [3]))


class Ahead(Made):
    def test_small(self):
        for signs in words([0, 1], 3) + [[HUGE, -HUGE]]:
            for row in ROWS:
                self.check(ahead(signs, row), signs + signs_of(row, 40), (signs, row))

    def test_signs_of_none(self):
        for row in ROWS:
            self.assertEqual(ahead([], row), least(row))

    def test_as_it_stands(self):
        self.assertEqual(ahead([1, 2], ([3], [4])), ([1, 2, 3], [4]))
        self.assertEqual(ahead([8, 9], ([], [1, 2])), ([8, 9], [1, 2]))

    def test_signs_that_end_as_the_round_goes(self):
        self.assertEqual(ahead([7, 3], ([], [1, 2, 3])), ([7], [3, 1, 2]))
        self.assertEqual(ahead([2, 3, 1, 2, 3], ([], [1, 2, 3])), ([], [2, 3, 1]))
        self.assertEqual(ahead([4] * 5, ([4], [4])), ([], [4]))

    def test_what_stands_behind_the_signs_is_the_row(self):
        for signs in words([0, 1], 3):
            for row in ROWS:
                self.assertEqual(behind(ahead(signs, row), len(signs)), least(row))


class Refusals(unittest.TestCase):
    RIGHT = ([1], [2, 3])

    def test_no_row(self):
        for wrong in wrong_rows():
            self.assertRaises(BadRow, every, wrong, 0, 1)
            self.assertRaises(BadRow, behind, wrong, 0)
            self.assertRaises(BadRow, added, wrong, self.RIGHT)
            self.assertRaises(BadRow, added, self.RIGHT, wrong)
            self.assertRaises(BadRow, added, wrong, wrong)
            self.assertRaises(BadRow, ahead, [1], wrong)
            self.assertRaises(BadRow, ahead, [], wrong)

    def test_no_rows(self):
        for wrong in wrong_rows():
            self.assertRaises(BadRow, woven, wrong)
            self.assertRaises(BadRow, woven, [wrong])
            self.assertRaises(BadRow, woven, [self.RIGHT, wrong])
            self.assertRaises(BadRow, woven, [wrong, self.RIGHT, self.RIGHT])
        for wrong in NO_LISTS:
            self.assertRaises(BadRow, woven, wrong)
        for wrong in [[], (self.RIGHT,), (self.RIGHT, self.RIGHT), self.RIGHT, {0: self.RIGHT}, iter([self.RIGHT])]:
            self.assertRaises(BadRow, woven, wrong)

    def test_no_place(self):
        for wrong in NO_PLACES:
            self.assertRaises(BadPlace, every, self.RIGHT, wrong, 1)
            self.assertRaises(BadPlace, every, self.RIGHT, 0, wrong)
            self.assertRaises(BadPlace, every, self.RIGHT, wrong, wrong)
            self.assertRaises(BadPlace, behind, self.RIGHT, wrong)

    def test_just_within_and_just_beyond(self):
        self.assertEqual(every(self.RIGHT, 0, 1), ([1], [2, 3]))
        self.assertRaises(BadPlace, every, self.RIGHT, -1, 1)
        self.assertRaises(BadPlace, every, self.RIGHT, 0, 0)
        self.assertRaises(BadPlace, every, self.RIGHT, HUGE, 0)
        self.assertEqual(behind(self.RIGHT, 0), ([1], [2, 3]))
        self.assertRaises(BadPlace, behind, self.RIGHT, -1)

    def test_no_signs(self):
        for wrong in NO_SIGN_LISTS:
            self.assertRaises(BadSigns, ahead, wrong, self.RIGHT)

    def test_which_of_two_is_told(self):
        for wrong in [None, ([], []), ([True], [1]), [[], [1]]]:
            self.assertRaises(BadRow, every, wrong, -1, 1)
            self.assertRaises(BadRow, every, wrong, 0, 0)
            self.assertRaises(BadRow, every, wrong, True, None)
            self.assertRaises(BadRow, behind, wrong, -1)
            self.assertRaises(BadRow, behind, wrong, None)
            self.assertRaises(BadSigns, ahead, [True], wrong)
            self.assertRaises(BadSigns, ahead, (1, 2), wrong)


class NothingShared(unittest.TestCase):
    ROWS = [([], [1]), ([1], [2]), ([1, 2], [1, 2]), ([9], [1, 2, 1, 2]), ([4], [5, 6, 5]), ([1, 1], [1])]

    def ways(self, row):
        return [lambda: every(row, 0, 1), lambda: every(row, 1, 2), lambda: woven([row]), lambda: woven([row, row]),
                lambda: added(row, row), lambda: added(row, ([], [0])), lambda: behind(row, 0), lambda: behind(row, 2),
                lambda: ahead([], row), lambda: ahead(row[0], row), lambda: ahead(row[1], row)]

    def test_what_is_handed_in_stays(self):
        for row in self.ROWS:
            before = copy.deepcopy(row)
            for way in self.ways(row):
                way()
                self.assertEqual(row, before)

    def test_what_is_told_is_new(self):
        for row in self.ROWS:
            before = copy.deepcopy(row)
            for way in self.ways(row):
                told = way()
                kept = copy.deepcopy(told)
                told[0].append(77)
                told[1].append(88)
                self.assertEqual(row, before)
                self.assertEqual(way(), kept)

    def test_the_lists_of_rows_and_of_signs_stay(self):
        rows, signs = [([1], [2]), ([3], [4, 4])], [1, 2]
        woven(rows)
        ahead(signs, rows[0])[0].append(9)
        self.assertEqual((rows, signs), ([([1], [2]), ([3], [4, 4])], [1, 2]))


if __name__ == "__main__":
    unittest.main()

"""What several tests need: small tellings, a slow but plain reading of rows, and wrong values."""

from itertools import product

HUGE = 10 ** 30


class Odd:
    """A value of a kind that the program has never heard of, which answers no comparison."""

    def __eq__(self, other):
        raise AssertionError("a value of a foreign kind was compared")

    __hash__ = None


def words(signs, longest):
    return [list(word) for size in range(longest + 1) for word in product(signs, repeat=size)]


def tellings(signs, longest_lead, longest_round):
    return [
        (list(lead), list(circle))
        for lead in words(signs, longest_lead)
        for circle in words(signs, longest_round)
        if circle
    ]


def signs_of(row, many):
    """The first signs of a row, one by one, straight from what point 1 says."""
    lead, circle = row
    signs = list(lead)
    while len(signs) < many:
        signs.extend(circle)
    return signs[:many]


NO_WHOLE_NUMBERS = [None, True, False, 1.0, float("nan"), 0.5, 1j, "1", "", b"1", [], [1], (), (1,), {}, {1: 1},
                    {1}, range(3), int, len, object(), Odd(), ValueError()]

NO_PLACES = NO_WHOLE_NUMBERS + [-1, -2, -HUGE]

NO_LISTS = [None, True, False, 0, 1, 1.0, "", "12", b"1", (), (1, 2), {}, {1: 2}, {1}, frozenset([1]), range(3),
            iter([1]), object(), Odd(), list]

NO_SIGN_LISTS = NO_LISTS + [[wrong] for wrong in NO_WHOLE_NUMBERS] + [[1, 2, wrong, 3] for wrong in NO_WHOLE_NUMBERS]


def wrong_rows():
    rows = [None, True, False, 0, 1, 1.0, "", "12", b"12", {}, {0: [1], 1: [2]}, {1, 2}, range(2), object(), Odd(), tuple]
    rows += [[], [1], [[], [1]], [[1], [2]]]
    rows += [(), ([],), ([1],), ([1], [2], [3]), ([], [1], []), ([], [1], [2], [3])]
    rows += [([], []), ([1], []), ([1, 2, 3], [])]
    rows += [(wrong, [1]) for wrong in NO_SIGN_LISTS]
    rows += [([1], wrong) for wrong in NO_SIGN_LISTS]
    rows += [([], wrong) for wrong in NO_SIGN_LISTS]
    return rows

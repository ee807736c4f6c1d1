"""What several tests need: small tellings, a slow but plain reading of rows, and wrong values."""

from itertools import product

HUGE = 10 ** 30

# Rows with leads up to 3 and rounds up to 4 that are alike so far are alike for ever (3 + 4 * 3 and more).
FAR = 40


class Odd:
    """A value of a kind that the program has never heard of, which answers no comparison."""

    def __eq__(self, other):
        raise AssertionError("a value of a foreign kind was compared")

    __hash__ = None


def words(signs, longest):
    return [list(word) for size in range(longest + 1) for word in product(signs, repeat=size)]


def tellings(signs, longest_lead, longest_round):
    return [
        (list(lead), list(circle))
        for lead in words(signs, longest_lead)
        for circle in words(signs, longest_round)
        if circle
    ]


def signs_of(row, many):
    """The first signs of a row, one by one, straight from what point 1 says."""
    lead, circle = row
    signs = list(lead)
    while len(signs) < many:
        signs.extend(circle)
    return signs[:many]


def sign_of(row, place):
    """The sign at one place, however far."""
    lead, circle = row
    return lead[place] if place < len(lead) else circle[(place - len(lead)) % len(circle)]


def plain_unlike(one, other):
    """The first unlike place, sought among far more signs than small rows need; None if there is none."""
    pairs = zip(signs_of(one, FAR), signs_of(other, FAR))
    return next((place for place, (left, right) in enumerate(pairs) if left != right), None)


def plain_stand(row, word):
    """The first place of a word, sought among far more signs than small rows need; None if there is none."""
    signs = signs_of(row, FAR)
    starts = range(FAR - len(word) + 1)
    return next((place for place in starts if signs[place:place + len(word)] == word), None)


def is_least(row):
    """Whether a telling is least, tried out: no shorter round goes as it does, and the lead's end is no round's end."""
    lead, circle = row
    many = len(circle)
    shorter = [step for step in range(1, many) if many % step == 0 and circle[:step] * (many // step) == circle]
    return shorter == [] and (lead == [] or lead[-1] != circle[-1])


NO_WHOLE_NUMBERS = [None, True, False, 1.0, float("nan"), 0.5, 1j, "1", "", b"1", [], [1], (), (1,), {}, {1: 1},
                    {1}, range(3), int, len, object(), Odd(), ValueError()]

NO_PLACES = NO_WHOLE_NUMBERS + [-1, -2, -HUGE]

NO_LISTS = [None, True, False, 0, 1, 1.0, "", "12", b"1", (), (1, 2), {}, {1: 2}, {1}, frozenset([1]), range(3),
            iter([1]), object(), Odd(), list]

NO_SIGN_LISTS = NO_LISTS + [[wrong] for wrong in NO_WHOLE_NUMBERS] + [[1, 2, wrong, 3] for wrong in NO_WHOLE_NUMBERS]


def wrong_rows():
    rows = [None, True, False, 0, 1, 1.0, "", "12", b"12", {}, {0: [1], 1: [2]}, {1, 2}, range(2), object(), Odd(), tuple]
    rows += [[], [1], [[], [1]], [[1], [2]]]
    rows += [(), ([],), ([1],), ([1], [2], [3]), ([], [1], []), ([], [1], [2], [3])]
    rows += [([], []), ([1], []), ([1, 2, 3], [])]
    rows += [(wrong, [1]) for wrong in NO_SIGN_LISTS]
    rows += [([1], wrong) for wrong in NO_SIGN_LISTS]
    rows += [([], wrong) for wrong in NO_SIGN_LISTS]
    return rows

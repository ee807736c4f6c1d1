"""What is told of two rows, and of a row and a word."""

from leadround.answers import Alike, Never, Stands, Unlike
from leadround.firsts import first_stand, first_unlike
from leadround.kinds import check_row, check_signs
from leadround.rows import least


def unlike(one, other):
    check_row(one)
    check_row(other)
    place = first_unlike(one, other)
    if place is not None:
        return Unlike(place)
    told = least(one)
    return Alike(told[0], told[1])


def stands(row, word):
    check_row(row)
    check_signs(word)
    place = first_stand(row, word)
    if place is None:
        return Never()
    return Stands(place)

"""The first place at which two rows are unlike, and the first one at which a word stands."""

from leadround.rows import begin, borders


def first_unlike(one, other):
    # Behind both leads the rows go by their rounds' lengths. Two such that are alike for as many signs as
    # both lengths together are alike for ever (Fine and Wilf), so none need be looked at behind these.
    enough = max(len(one[0]), len(other[0])) + len(one[1]) + len(other[1])
    left = begin(one, enough)
    right = begin(other, enough)
    for place in range(enough):
        if left[place] != right[place]:
            return place
    return None


def first_within(signs, word):
    if len(word) == 0:
        return 0
    backs = borders(word)
    fit = 0
    for place in range(len(signs)):
        while fit > 0 and signs[place] != word[fit]:
            fit = backs[fit - 1]
        if signs[place] == word[fit]:
            fit = fit + 1
        if fit == len(word):
            return place + 1 - fit
    return None


def first_stand(row, word):
    # From a place behind the lead and one round on stands what stands from a round before on,
    # so a word that stands anywhere begins ahead of that.
    return first_within(begin(row, len(row[0]) + len(row[1]) + len(word)), word)

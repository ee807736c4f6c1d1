"""The answers of two rows, and of a row and a word; each can say whether it is true of what is asked."""

from leadround.firsts import first_stand, first_unlike
from leadround.kinds import is_place, is_row
from leadround.rows import least


class Answer:
    pass


class Alike(Answer):
    def __init__(self, lead, circle):
        self.lead = list(lead)
        self.circle = list(circle)

    def shows(self, one, other):
        telling = (self.lead, self.circle)
        # Asked first, since Python holds True for 1 when it compares.
        return is_row(telling) and telling == least(one) and telling == least(other)


class Unlike(Answer):
    def __init__(self, place):
        self.place = place

    def shows(self, one, other):
        return is_place(self.place) and self.place == first_unlike(one, other)


class Stands(Answer):
    def __init__(self, place):
        self.place = place

    def shows(self, row, word):
        return is_place(self.place) and self.place == first_stand(row, word)


class Never(Answer):
    def shows(self, row, word):
        return first_stand(row, word) is None

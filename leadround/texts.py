"""Rows written as texts, and read from them."""

from leadround.errors import BadRow, BadText
from leadround.rows import least


def check_size(signs):
    # By the number, not by its text: Python writes no number of some thousand figures.
    if not all([abs(sign) < 10 ** 60 for sign in signs]):
        raise BadRow("a sign of more than sixty figures is not written")


def written(row):
    told = least(row)
    check_size(told[0])
    check_size(told[1])
    lead = "".join([f"{sign} " for sign in told[0]])
    circle = " ".join([str(sign) for sign in told[1]])
    return f"{lead}({circle})"


def are_figures(word):
    if len(word) < 1 or len(word) > 60 or not all([sign in "0123456789" for sign in word]):
        return False
    return word == "0" or not word.startswith("0")


def read_sign(word):
    figures = word[1:] if word.startswith("-") else word
    if not are_figures(figures) or word == "-0":
        raise BadText("a sign is of one to sixty figures, without a needless nought")
    return int(word)


def read_signs(text):
    return [read_sign(word) for word in text.split(" ")]


def read_lead(text):
    if text == "":
        return []
    if not text.endswith(" "):
        raise BadText("a blank stands behind each sign of the lead")
    return read_signs(text[:-1])


def read(text):
    if not isinstance(text, str):
        raise BadText("a row is read from a text")
    parts = text.split("(")
    if len(parts) != 2 or not parts[1].endswith(")"):
        raise BadText("the round stands at the end, between one bracket and another")
    return (read_lead(parts[0]), read_signs(parts[1][:-1]))

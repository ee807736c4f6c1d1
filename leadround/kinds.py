"""What counts as a sign, a list of signs, a place, a step and a row, and the refusals of what does not."""

from leadround.errors import BadPlace, BadRow, BadSigns


def is_sign(given):
    # Python counts True and False among the whole numbers; here they are none.
    return isinstance(given, int) and not isinstance(given, bool)


def is_place(given):
    return is_sign(given) and given >= 0


def is_signs(given):
    return isinstance(given, list) and all([is_sign(sign) for sign in given])


def is_row(given):
    if not isinstance(given, tuple) or len(given) != 2:
        return False
    return is_signs(given[0]) and is_signs(given[1]) and len(given[1]) > 0


def check_row(given):
    if not is_row(given):
        raise BadRow("a row is a tuple of two lists of whole numbers, the second of one or more")


def check_sign(given):
    if not is_sign(given):
        raise BadSigns("a sign is a whole number")


def check_signs(given):
    if not is_signs(given):
        raise BadSigns("signs are a list of whole numbers")


def check_place(given):
    if not is_place(given):
        raise BadPlace("a place is a whole number from 0 on")


def check_step(given):
    if not is_place(given) or given == 0:
        raise BadPlace("a step is a whole number from 1 on")

"""The fraction of a row of figures, and the figures of a fraction."""

from leadround.errors import BadBase, BadFigures, BadFraction
from leadround.kinds import check_row, is_place
from leadround.rows import least


def check_base(given):
    if not is_place(given) or given < 2 or given > 1000:
        raise BadBase("a base is a whole number from 2 to 1000")


def check_figures(signs, base):
    if min(signs, default=0) < 0 or max(signs, default=0) >= base:
        raise BadFigures("a figure is a sign from 0 to one less than the base")


def check_fraction(above, below):
    if not is_place(below) or below < 1 or below > 1000:
        raise BadFraction("the number below is a whole number from 1 to 1000")
    if not is_place(above) or above >= below:
        raise BadFraction("the number above is a whole number from 0 to one less than the one below")


def number_of(figures, base):
    number = 0
    for figure in figures:
        number = number * base + figure
    return number


def power(base, many):
    product = 1
    for turn in range(many):
        product = product * base
    return product


def greatest_divisor(one, other):
    while other != 0:
        rest = one % other
        one = other
        other = rest
    return one


def fraction(row, base):
    check_row(row)
    check_base(base)
    check_figures(row[0], base)
    check_figures(row[1], base)
    # Told least, since a telling that is longer than it need be makes the numbers far greater.
    told = least(row)
    # A round that goes on for ever is its number by one less than the power of its length.
    whole = power(base, len(told[1])) - 1
    above = number_of(told[0], base) * whole + number_of(told[1], base)
    below = power(base, len(told[0])) * whole
    shared = greatest_divisor(above, below)
    return (above // shared, below // shared)


def figured(above, below, base):
    check_fraction(above, below)
    check_base(base)
    figures = []
    places = {}
    rest = above
    # Unlike rests have unlike figures behind them, so the first rest that comes again tells lead and round least.
    while rest not in places:
        places[rest] = len(figures)
        figures.append(rest * base // below)
        rest = rest * base % below
    return (figures[:places[rest]], figures[places[rest]:])

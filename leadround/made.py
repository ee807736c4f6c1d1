"""Rows made of rows, each told least."""

from leadround.errors import BadRow
from leadround.kinds import check_place, check_row, check_signs, check_step, is_row
from leadround.rows import begin, least, sign_at


def check_rows(given):
    if not isinstance(given, list) or len(given) == 0 or not all([is_row(row) for row in given]):
        raise BadRow("rows are a list of one row or more")


def longest_lead(rows):
    return max([len(row[0]) for row in rows])


def common_round(rows):
    common = 1
    for row in rows:
        step = common
        while common % len(row[1]) != 0:
            common = common + step
    return common


def every(row, start, step):
    check_row(row)
    check_place(start)
    check_step(step)
    inside = max(0, len(row[0]) - start)
    # Rounded up: a step that begins within the lead takes a sign of it.
    many = (inside + step - 1) // step
    # So many steps as the round has signs go round it some whole times, whatever the step.
    signs = [sign_at(row, start + step * turn) for turn in range(many + len(row[1]))]
    return least((signs[:many], signs[many:]))


def woven(rows):
    check_rows(rows)
    # Told least, since rounds that are longer than they need be make the common one far longer.
    parts = [least(row) for row in rows]
    lead = longest_lead(parts)
    many = lead + common_round(parts)
    begins = [begin(part, many) for part in parts]
    signs = []
    for place in range(many):
        signs.extend([part[place] for part in begins])
    ends = lead * len(parts)
    return least((signs[:ends], signs[ends:]))


def added(one, other):
    check_row(one)
    check_row(other)
    # Told least for the same cause as in woven.
    parts = [least(one), least(other)]
    lead = longest_lead(parts)
    many = lead + common_round(parts)
    signs = [sum(pair) for pair in zip(begin(parts[0], many), begin(parts[1], many))]
    return least((signs[:lead], signs[lead:]))


def behind(row, place):
    return every(row, place, 1)


def ahead(signs, row):
    check_signs(signs)
    check_row(row)
    return least((signs + row[0], row[1]))

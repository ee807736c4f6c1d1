"""The least telling of a row, and what stands at its places."""

from leadround.kinds import check_place, check_row, check_sign


def borders(signs):
    # For each place: how long the longest start of the signs is, shorter than what stands up to there,
    # with which that also ends. By it periods and words are found without going over signs again and again.
    found = [0]
    for place in range(1, len(signs)):
        size = found[place - 1]
        while size > 0 and signs[place] != signs[size]:
            size = found[size - 1]
        if signs[place] == signs[size]:
            size = size + 1
        found.append(size)
    return found


def gone_once(circle):
    step = len(circle) - borders(circle)[-1]
    # If the shortest step does not divide the whole, no longer one below the whole does either.
    if len(circle) % step != 0:
        return circle
    return circle[:step]


def rolled_back(lead, circle):
    # A lead that ends as the round ends is longer than it need be: its end can be told by the round.
    many = len(circle)
    gone = 0
    while gone < len(lead) and lead[len(lead) - 1 - gone] == circle[many - 1 - gone % many]:
        gone = gone + 1
    turn = many - gone % many
    return (lead[:len(lead) - gone], circle[turn:] + circle[:turn])


def least(row):
    check_row(row)
    return rolled_back(row[0], gone_once(row[1]))


def sign_at(row, place):
    # Without a check, since one of the whole row for each of many places would be slow.
    lead = row[0]
    circle = row[1]
    if place < len(lead):
        return lead[place]
    return circle[(place - len(lead)) % len(circle)]


def told_at(row, place):
    check_row(row)
    check_place(place)
    return sign_at(row, place)


def begin(row, many):
    check_row(row)
    check_place(many)
    lead = row[0]
    circle = row[1]
    if many <= len(lead):
        return lead[:many]
    rest = many - len(lead)
    return lead + circle * (rest // len(circle)) + circle[:rest % len(circle)]


def often(row, sign, many):
    check_row(row)
    check_sign(sign)
    check_place(many)
    lead = row[0]
    circle = row[1]
    if many <= len(lead):
        return lead[:many].count(sign)
    # The rounds are counted, not gone through, so that a far end costs no more than a near one.
    rest = many - len(lead)
    whole = circle.count(sign) * (rest // len(circle))
    return lead.count(sign) + whole + circle[:rest % len(circle)].count(sign)

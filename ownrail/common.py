"""The squares that two roads have in common."""

from ownrail.roads import Road, rounds_between


def pairs_of_roads(one, other):
    """Rows (i, j, steps), by i's rest by the one's round, then by j's by the other's, of all places on one square."""
    return rows_of_roads(Road(one), Road(other))


def rows_of_roads(first, second):
    """The rows of two roads."""
    if not first.drifts() and not second.drifts():
        return rows_of_rounds(first, second)
    rows = []
    for u in range(first.span):
        for v in range(second.span):
            row = row_of(first, second, u, v)
            if row is not None:
                rows.append(row)
    return tuple(rows)


def rows_of_rounds(first, second):
    """The rows of two roads that both come back to their begin."""
    # Such roads are the longest ones, so their squares are looked up, not held against each other one by one.
    found = {}
    for v, (square, way) in enumerate(second.places):
        found.setdefault(square, []).append(v)
    steps = ((first.span, 0), (0, second.span))
    return tuple([(u, v, steps) for u, (square, way) in enumerate(first.places) for v in found.get(square, [])])


def row_of(first, second, u, v):
    """The row of all pairs whose places leave u and v by the rounds, or None; one of the roads drifts, or both."""
    if first.drifts() and second.drifts():
        return row_of_drifts(first, second, u, v)
    if second.drifts():
        rounds = rounds_between(second.square_at(v), first.square_at(u), second.drift)
        return None if rounds is None else (u, v + rounds * second.span, ((first.span, 0),))
    rounds = rounds_between(first.square_at(u), second.square_at(v), first.drift)
    return None if rounds is None else (u + rounds * first.span, v, ((0, second.span),))


def row_of_drifts(first, second, u, v):
    """The row of all pairs of two drifts whose places leave u and v by the rounds, or None."""
    x, y = first.square_at(u)
    other_x, other_y = second.square_at(v)
    between = (other_x - x, other_y - y)
    if across(first.drift, second.drift) != 0:
        return row_that_crosses(first, second, u, v, between)
    if across(first.drift, between) != 0:
        return None
    return row_abreast(first, second, u, v, between)


def across(one, other):
    """0 where both lead along one line, else the size, either way, of the field that they span."""
    return one[0] * other[1] - one[1] * other[0]


def row_that_crosses(first, second, u, v, between):
    """The row of the one pair, or None, where the drifts lead along two lines."""
    # a times the one's drift is between and b times the other's: a and b by Cramer's rule, where both are whole.
    whole = across(first.drift, second.drift)
    a, b = across(between, second.drift), across(between, first.drift)
    if a % whole != 0 or b % whole != 0:
        return None
    return (u + a // whole * first.span, v + b // whole * second.span, ())


def row_abreast(first, second, u, v, between):
    """The row of pairs without end, or None, where both drifts and what is between lead along one line."""
    # All lead along one line, so x alone, or y where x stays, tells how far.
    axis = 0 if first.drift[0] != 0 else 1
    p, q, gap = first.drift[axis], second.drift[axis], between[axis]
    step = [a for a in range(1, abs(q) + 1) if a * p % q == 0][0]
    for a in range(step):
        if (a * p - gap) % q == 0:
            b = (a * p - gap) // q
            return (u + a * first.span, v + b * second.span, ((step * first.span, step * p // q * second.span),))
    return None

"""How far a row is from judges, and the fit rows that are nearest to them."""

from manyjudges.fits import fit_rows


def weights_for(row, weights):
    if weights is None:
        return tuple([1 for truth in row])
    return weights


def unlike(row, other, weights):
    """The weights of the sayings at which the two rows differ, added."""
    total = 0
    for number, weight in enumerate(weights):
        if row[number] != other[number]:
            total = total + weight
    return total


def distance(row, judges, weights=None):
    given = weights_for(row, weights)
    return sum([unlike(row, judge, given) for judge in judges])


def nearest(sayings, judges, weights=None):
    rows = fit_rows(sayings)
    distances = [distance(row, judges, weights) for row in rows]
    least = min(distances)
    return [row for row, far in zip(rows, distances) if far == least]

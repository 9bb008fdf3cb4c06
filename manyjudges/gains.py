"""Whether a judge gains by a false row."""

from manyjudges.fits import fit_rows
from manyjudges.nearest import distance


def with_row(judges, number, row):
    return judges[:number] + (row,) + judges[number + 1:]


def gains(way, sayings, judges, number):
    own = (judges[number],)
    honest = distance(way.row(sayings, judges), own)
    for false_row in fit_rows(sayings):
        row = way.row(sayings, with_row(judges, number, false_row))
        if distance(row, own) < honest:
            return (false_row, row)
    return None

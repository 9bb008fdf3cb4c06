"""Sayings and judges seated together, or refused."""

from manyjudges.errors import BadRow, Even, OutOfBounds
from manyjudges.fits import fit_rows, names_of
from manyjudges.sayings import pieces_in

MOST_SAYINGS = 6
MOST_NAMES = 5
MOST_PIECES = 40
MOST_JUDGES = 21


def check_bounds(sayings, judges):
    if len(sayings) < 1 or len(sayings) > MOST_SAYINGS:
        raise OutOfBounds("there must be one to six sayings")
    if len(judges) < 1 or len(judges) > MOST_JUDGES:
        raise OutOfBounds("there must be one to twenty-one judges")
    if any([pieces_in(saying) > MOST_PIECES for saying in sayings]):
        raise OutOfBounds("a saying must have at most forty pieces")
    if len(names_of(sayings)) > MOST_NAMES:
        raise OutOfBounds("the sayings must have at most five names together")


def is_among(rows, row):
    # The kinds are asked too, as 1 and 0 are equal to truths; all else that is no row is unequal to each row.
    return row in rows and all([isinstance(truth, bool) for truth in row])


def check_rows(sayings, judges):
    rows = fit_rows(sayings)
    for number, row in enumerate(judges):
        if not is_among(rows, row):
            raise BadRow(number)


def seated(sayings, judges):
    check_bounds(sayings, judges)
    # Only behind the bounds, as all ways to hold very many names would be too many to try.
    check_rows(sayings, judges)
    if len(judges) % 2 == 0:
        raise Even("the number of judges must be odd")
    return (sayings, judges)

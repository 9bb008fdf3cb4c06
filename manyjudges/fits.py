"""Rows of a list of sayings: which are fit, which parts are, and what follows."""

from manyjudges.sayings import is_so, names_in
from manyjudges.tables import held_by, ways_to_hold


def names_of(sayings):
    names = []
    for saying in sayings:
        names.extend(names_in(saying))
    return tuple(sorted(set(names)))


def all_held(sayings):
    names = names_of(sayings)
    return [held_by(number, names) for number in range(ways_to_hold(names))]


def row_of(sayings, held):
    return tuple([is_so(saying, held) for saying in sayings])


def fit_rows(sayings):
    return sorted(set([row_of(sayings, held) for held in all_held(sayings)]))


def agrees(row, part):
    for number, truth in part:
        if row[number] != truth:
            return False
    return True


def any_agrees(rows, part):
    for row in rows:
        if agrees(row, part):
            return True
    return False


def fits(sayings, part):
    for held in all_held(sayings):
        if agrees(row_of(sayings, held), part):
            return held
    return None


def truth_among(rows, part, number):
    truths = [row[number] for row in rows if agrees(row, part)]
    if all(truths):
        return True
    if any(truths):
        return None
    return False


def follows(sayings, part, number):
    # Each way to hold the letters has its row among the fit ones, so these stand for all ways.
    return truth_among(fit_rows(sayings), part, number)

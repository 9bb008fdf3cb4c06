"""Outcomes by a quota, the least quota that never fails, and judges with whom a lower one does."""

from manyjudges.counts import who_say
from manyjudges.fits import agrees, fit_rows
from manyjudges.parts import smallest_unfit, without


def answer_by(judges, number, quota):
    for truth in (True, False):
        if len(who_say(judges, number, truth)) >= quota:
            return truth
    return None


def outcome(judges, quota):
    return tuple([answer_by(judges, number, quota) for number in range(len(judges[0]))])


def longest_unfit(sayings):
    """A smallest unfit part with the most pairs, or the empty part where every part is fit."""
    return max(smallest_unfit(sayings), key=len, default=())


def least_for(part, many):
    above_half = many // 2 + 1
    if part == ():
        return above_half
    # A judge with a fit row says at most all but one of the part's pairs, so they can't all be said by so many.
    above_all_but_one = many * (len(part) - 1) // len(part) + 1
    return max(above_all_but_one, above_half)


def least_quota(sayings, many):
    return least_for(longest_unfit(sayings), many)


def first_with(rows, part):
    return [row for row in rows if agrees(row, part)][0]


def against(sayings, many, quota):
    part = longest_unfit(sayings)
    # Where every part is fit there are no such judges, even for a number that is too low to be a quota.
    if part == () or quota >= least_for(part, many):
        return None
    rows = fit_rows(sayings)
    # Judges leave out the part's pairs by turns, so each pair is left out by as few of them as can be.
    return tuple([first_with(rows, without(part, part[judge % len(part)])) for judge in range(many)])

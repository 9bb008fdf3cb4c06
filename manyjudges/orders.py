"""Answers taken one by one in an order, or from grounds, with a reason for each."""

from manyjudges.counts import most, who_say
from manyjudges.errors import Barred
from manyjudges.fits import any_agrees, fit_rows, truth_among
from manyjudges.parts import needed_against


def by_judges(judges, number, truth):
    return ("judges", tuple(who_say(judges, number, truth)))


def by_part(rows, part, number, truth):
    # An answer follows just where its other truth is unfit beside the part.
    return ("follows", needed_against(rows, part, ((number, not truth),)))


def in_order(sayings, judges, order):
    rows = fit_rows(sayings)
    said = most(judges)
    taken = {}
    reasons = {}
    for number in order:
        ahead = tuple(sorted(taken.items()))
        if any_agrees(rows, ahead + ((number, said[number]),)):
            taken[number] = said[number]
            reasons[number] = by_judges(judges, number, said[number])
        else:
            taken[number] = not said[number]
            reasons[number] = by_part(rows, ahead, number, taken[number])
    row = tuple([taken[number] for number in range(len(sayings))])
    return (row, [reasons[number] for number in range(len(sayings))])


def grounds_answers(rows, judges, grounds):
    said = most(judges)
    part = tuple([(number, said[number]) for number in grounds])
    if not any_agrees(rows, part):
        raise Barred(needed_against(rows, part, ()))
    return part


def grounds_reason(rows, judges, part, number, truth):
    if (number, truth) in part:
        return by_judges(judges, number, truth)
    if truth is None:
        return None
    return by_part(rows, part, number, truth)


def grounds_first(sayings, judges, grounds):
    rows = fit_rows(sayings)
    part = grounds_answers(rows, judges, grounds)
    # From the grounds' answers each of them follows too, so one walk takes all.
    row = tuple([truth_among(rows, part, number) for number in range(len(sayings))])
    return (row, [grounds_reason(rows, judges, part, number, truth) for number, truth in enumerate(row)])

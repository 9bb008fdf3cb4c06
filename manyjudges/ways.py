"""Ways from judges to a row, with a reason for each answer."""

from manyjudges.counts import most, who_say
from manyjudges.nearest import nearest
from manyjudges.orders import by_judges, in_order


def all_by_judges(judges, row):
    return [by_judges(judges, number, truth) for number, truth in enumerate(row)]


def strength(judges, number):
    return abs(len(who_say(judges, number, True)) - len(who_say(judges, number, False)))


def order_of_strength(judges):
    # Of alike ones the less number comes first, as sorted leaves them in their order.
    return tuple(sorted(range(len(judges[0])), key=lambda number: -strength(judges, number)))


class Way:
    pass


class Most(Way):
    def row(self, sayings, judges):
        return most(judges)

    def reasons(self, sayings, judges):
        return all_by_judges(judges, self.row(sayings, judges))


class InOrder(Way):
    def __init__(self, order):
        self.order = order

    def row(self, sayings, judges):
        return in_order(sayings, judges, self.order)[0]

    def reasons(self, sayings, judges):
        return in_order(sayings, judges, self.order)[1]


class ByStrength(Way):
    def row(self, sayings, judges):
        return in_order(sayings, judges, order_of_strength(judges))[0]

    def reasons(self, sayings, judges):
        return in_order(sayings, judges, order_of_strength(judges))[1]


class Nearest(Way):
    def __init__(self, weights=None):
        self.weights = weights

    def row(self, sayings, judges):
        return nearest(sayings, judges, self.weights)[0]

    def reasons(self, sayings, judges):
        return all_by_judges(judges, self.row(sayings, judges))

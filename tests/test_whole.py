"""Point 3, and with it 1: what holds together, from the text of a list and judges to the report of a way."""

import itertools
import random
import unittest

from manyjudges.counts import most, who_say
from manyjudges.errors import Barred, Even
from manyjudges.fits import fit_rows, fits
from manyjudges.gains import gains
from manyjudges.nearest import distance, nearest
from manyjudges.orders import grounds_first, in_order
from manyjudges.parts import always_fit, smallest_unfit
from manyjudges.quotas import against, least_quota, outcome
from manyjudges.reader import read, read_saying
from manyjudges.report import report
from manyjudges.seats import seated
from manyjudges.shows import shown, written
from manyjudges.ways import ByStrength, InOrder, Most, Nearest
from samples import (
    BOTH_ANDS, LISTS, PREMISES, THREE, Reasons, asked, distance_of, has_part, is_fit, nearest_of, order_by_strength,
    row_in_order, rows_of, smallest_of, some_judges, text_for, unfit_threes, what_follows, what_most_say, who,
)

WEIGHTS = (2, 1, 3, 1, 1, 2)
TEXT = "\n".join(("say a", "say b", "say (a and b)", "judge yyy", "judge ynn", "judge nyn"))


def parted_rows(rows):
    """Some judges' rows that differ much, and some that don't."""
    return [rows[:1], rows[-1:], rows[:3], rows[-3:], rows[::2], rows]


def texts_of(draw, sayings):
    """Texts of this list with an odd number of judges: drawn, of few rows, and such whose most isn't fit."""
    rows = rows_of(sayings)
    judges = [some_judges(draw, rows, many) for many in (1, 3, 21)]
    judges.extend(some_judges(draw, few, 3) for few in parted_rows(rows))
    return [text_for(sayings, some) for some in judges + unfit_threes(rows)]


def all_texts(seed, step=1):
    draw = random.Random(seed)
    return [text for sayings in LISTS[::step] for text in texts_of(draw, sayings)]


def ways_for(many):
    order = tuple(range(many))
    return [Most(), InOrder(order), InOrder(order[::-1]), ByStrength(), Nearest(), Nearest(WEIGHTS[:many])]


class OneText(unittest.TestCase):
    """One text, all the way by hand."""

    def test_from_the_text_to_the_report(self):
        sayings, judges = read(TEXT)
        self.assertEqual((sayings, judges), (PREMISES, THREE))
        self.assertEqual(written(sayings, judges), TEXT)
        self.assertFalse(always_fit(sayings))
        self.assertEqual(smallest_unfit(sayings), [
            ((0, False), (2, True)), ((0, True), (1, True), (2, False)), ((1, False), (2, True)),
        ])
        self.assertEqual(most(judges), (True, True, False))
        self.assertEqual(in_order(sayings, judges, (2, 1, 0))[0], (False, True, False))
        self.assertEqual(nearest(sayings, judges), [(False, True, False), (True, False, False), (True, True, True)])
        self.assertEqual(least_quota(sayings, 3), 3)
        self.assertEqual([gains(ByStrength(), sayings, judges, number) for number in range(3)], [None] * 3)
        self.assertEqual(report(InOrder((2, 1, 0)), sayings, judges), "\n".join((
            "no a: from yes 1, no 2", "yes b: judges 0 2", "no (a and b): judges 1 2",
        )))


class Whole(Reasons):
    def test_a_text_and_what_it_is_read_as(self):
        for text in all_texts(100):
            sayings, judges = read(text)
            self.assertEqual(written(sayings, judges), text)
            self.assertEqual(seated(sayings, judges), (sayings, judges))
            self.assertEqual(tuple(read_saying(shown(saying)) for saying in sayings), sayings)

    def test_most_is_always_fit_just_where_it_is_told_so(self):
        seen = {True: 0, False: 0}
        draw = random.Random(101)
        for listed in LISTS:
            texts = texts_of(draw, listed)
            sayings = read(texts[0])[0]
            rows = rows_of(sayings)
            told = always_fit(sayings)
            seen[told] = seen[told] + 1
            self.assertEqual(smallest_unfit(sayings), smallest_of(rows, len(sayings)))
            self.assertEqual(told, all(len(part) <= 2 for part in smallest_unfit(sayings)))
            for judges in [read(text)[1] for text in texts]:
                self.assertEqual(most(judges), what_most_say(judges))
                self.assertTrue(most(judges) in rows or not told)
            if told:
                self.assertIsNone(against(sayings, 3, 2))
            else:
                self.check_against_most(sayings, rows)
        self.assertGreater(min(seen.values()), 15)

    def check_against_most(self, sayings, rows):
        """The judges who are told can be written and read, and the report of most tells a row that can't be."""
        judges = against(sayings, 3, 2)
        self.assertEqual(read(written(sayings, judges)), (sayings, judges))
        row, reasons = self.check_report(report(Most(), sayings, judges), sayings)
        self.assertEqual(row, most(judges))
        self.assertNotIn(row, rows)
        self.assertIsNone(fits(sayings, tuple(enumerate(row))))
        self.assertTrue(any(has_part(row, part) for part in smallest_unfit(sayings)))

    def test_all_threes_where_most_is_always_fit(self):
        for sayings in LISTS:
            rows = rows_of(sayings)
            if len(rows) <= 12:
                told = all(most(three) in rows for three in itertools.combinations(rows, 3))
                self.assertEqual(always_fit(sayings), told)

    def test_answers_in_an_order_are_fit_and_each_has_a_reason(self):
        draw = random.Random(102)
        for text in all_texts(103):
            sayings, judges = read(text)
            rows = rows_of(sayings)
            drawn = tuple(draw.sample(range(len(sayings)), len(sayings)))
            self.check_in_order(*in_order(sayings, judges, drawn), rows, judges, drawn)
            for way, order in ((InOrder(drawn), drawn), (ByStrength(), order_by_strength(judges))):
                row, reasons = self.check_report(report(way, sayings, judges), sayings)
                self.assertEqual(row, way.row(sayings, judges))
                self.assertEqual(row, row_in_order(rows, judges, order))
                self.check_in_order(row, reasons, rows, judges, order)

    def test_grounds_first(self):
        draw = random.Random(104)
        seen = {True: 0, False: 0}
        for text in all_texts(105):
            sayings, judges = read(text)
            rows, said = rows_of(sayings), what_most_say(judges)
            grounds = tuple(sorted(draw.sample(range(len(sayings)), draw.randrange(len(sayings) + 1))))
            part = tuple((number, said[number]) for number in grounds)
            try:
                row, reasons = grounds_first(sayings, judges, grounds)
            except Barred as refusal:
                self.assertFalse(is_fit(rows, part))
                self.assertLessEqual(set(refusal.part), set(part))
                self.assertIn(refusal.part, smallest_unfit(sayings))
                seen[False] = seen[False] + 1
            else:
                self.assertEqual(row, tuple(what_follows(rows, part, number) for number in range(len(sayings))))
                self.assertEqual([reason is None for reason in reasons], [truth is None for truth in row])
                seen[True] = seen[True] + 1
        self.assertGreater(min(seen.values()), 10)

    def test_the_nearest_rows_are_told_all_of_them(self):
        for text in all_texts(106):
            sayings, judges = read(text)
            rows = rows_of(sayings)
            for weights in (None, WEIGHTS[:len(sayings)]):
                told = nearest(sayings, judges, weights)
                self.assertEqual(told, nearest_of(rows, judges, weights))
                far = distance(told[0], judges, weights)
                for row in rows:
                    self.assertEqual(row in told, distance(row, judges, weights) <= far)
                row, reasons = self.check_report(report(Nearest(weights), sayings, judges), sayings)
                self.assertEqual(row, told[0])
                for number, reason in enumerate(reasons):
                    self.check_judges(reason, judges, number, row[number])
                    self.assertEqual(reason[1], tuple(who_say(judges, number, row[number])))
                    self.assertEqual(reason[1], who(judges, number, row[number]))

    def test_quotas(self):
        draw = random.Random(107)
        below = 0
        for sayings in LISTS:
            rows = rows_of(sayings)
            for many in (1, 2, 3, 4, 5, 7, 10, 20, 21):
                least = least_quota(sayings, many)
                self.assertIn(least, range(many // 2 + 1, many + 1))
                self.assertIsNone(against(sayings, many, least))
                self.assertTrue(self.outcome_is_fit(rows, some_judges(draw, rows, many), least))
                judges = against(sayings, many, least - 1) if 2 * (least - 1) > many else None
                if judges is not None:
                    self.assertEqual(len(judges), many)
                    self.assertFalse(self.outcome_is_fit(rows, judges, least - 1))
                    told = asked(read, written(sayings, judges))
                    self.assertEqual(told, ((sayings, judges), None) if many % 2 else (None, (Even, None)))
                    below = below + 1
                self.assertEqual(judges is None, 2 * (least - 1) <= many)
        self.assertGreater(below, 100)

    def outcome_is_fit(self, rows, judges, quota):
        told = outcome(judges, quota)
        return is_fit(rows, [(number, truth) for number, truth in enumerate(told) if truth is not None])

    def test_who_gains(self):
        seen = {True: 0, False: 0}
        threes = itertools.combinations(rows_of(BOTH_ANDS), 3)
        texts = [text_for(BOTH_ANDS, judges) for judges in itertools.islice(threes, 0, None, 2)]
        texts.extend(text for text in all_texts(108, 9) if text.count("judge") <= 3 and len(text) < 200)
        for text in texts:
            sayings, judges = read(text)
            for way in ways_for(len(sayings)):
                for number in range(len(judges)):
                    gained = self.check_gain(way, sayings, judges, number)
                    seen[gained] = seen[gained] + 1
                    self.assertFalse(gained and type(way) is Most)
        self.assertGreater(min(seen.values()), 5)

    def check_gain(self, way, sayings, judges, number):
        """All fit rows in the judge's place, each written and read."""
        own, found = judges[number], None
        before = distance_of(way.row(sayings, judges), (own,), None)
        for tried in rows_of(sayings):
            turned = judges[:number] + (tried,) + judges[number + 1:]
            row = way.row(*read(written(sayings, turned)))
            if found is None and distance_of(row, (own,), None) < before:
                found = (tried, row)
        self.assertEqual(gains(way, sayings, judges, number), found)
        return found is not None


class Again(Reasons):
    """Point 2 over the whole: what is told hangs on what was handed in alone."""

    def all_told(self, text):
        sayings, judges = read(text)
        ways = ways_for(len(sayings))
        # Where any one part is told, it isn't asked that it be the same one again.
        reports = [self.check_report(report(way, sayings, judges), sayings)[0] for way in ways]
        reports.extend([report(Most(), sayings, judges), report(Nearest(), sayings, judges)])
        return (sayings, judges, reports, most(judges), nearest(sayings, judges), smallest_unfit(sayings),
                [way.row(sayings, judges) for way in ways], written(sayings, judges))

    def test_told_alike_with_another_between(self):
        texts = all_texts(109, 9)
        for text, other in zip(texts, texts[1:]):
            first = self.all_told(text)
            for wrong in (text + "\n", text + other, other[:-1], "", None):
                asked(read, wrong)
            self.all_told(other)
            self.assertEqual(self.all_told(text), first)

    def test_told_lists_that_the_asker_changed(self):
        for text in all_texts(110, 11):
            sayings, judges = read(text)
            first = self.all_told(text)
            told = [fit_rows(sayings), smallest_unfit(sayings), nearest(sayings, judges), who_say(judges, 0, True),
                    in_order(sayings, judges, tuple(range(len(sayings))))[1], grounds_first(sayings, judges, ())[1]]
            told.extend(way.reasons(sayings, judges) for way in ways_for(len(sayings)))
            for one in told:
                one.append("mine")
                one.reverse()
                del one[1:]
            self.assertEqual(self.all_told(text), first)
            self.assertEqual(read(text), (sayings, judges))


if __name__ == "__main__":
    unittest.main()

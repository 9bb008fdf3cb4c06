"""Sayings, lists and judges that several tests ask of, and a plain reckoning of what is to be told."""

import functools
import itertools
import random
import re
import unittest

from manyjudges.errors import BadRow, Even, JudgeError, NoText, OutOfBounds

A = ("letter", "a")
B = ("letter", "b")
C = ("letter", "c")
FIVE_NAMES = ("a", "b", "c", "d", "e")
PAIRED = ("and", "or", "if")
PREMISES = (A, B, ("and", A, B))
BOTH_ANDS = (("and", A, B), A, B, C, ("and", B, C))
# Their most is (True, True, False), which isn't fit for these premises.
THREE = ((True, True, True), (True, False, False), (False, True, False))


def no(saying):
    return ("not", saying)


def chain_of_not(pieces):
    saying = A
    for _ in range(pieces - 1):
        saying = no(saying)
    return saying


def leaning(kind, letters, right):
    """A saying as deep as its letters allow: 2 * letters - 1 pieces."""
    saying = A
    for _ in range(letters - 1):
        saying = (kind, B, saying) if right else (kind, saying, B)
    return saying


def broad(names):
    """A saying that halves at each step, of 2 * len(names) - 1 pieces."""
    if len(names) == 1:
        return ("letter", names[0])
    half = len(names) // 2
    return (PAIRED[len(names) % 3], broad(names[:half]), broad(names[half:]))


def and_of(names):
    saying = ("letter", names[0])
    for name in names[1:]:
        saying = ("and", saying, ("letter", name))
    return saying


def all_of(pieces, names):
    """All sayings of just so many pieces over the names."""
    if pieces == 1:
        return [("letter", name) for name in names]
    found = [no(saying) for saying in all_of(pieces - 1, names)]
    for ahead in range(1, pieces - 1):
        for one in all_of(ahead, names):
            for other in all_of(pieces - 1 - ahead, names):
                found.extend((kind, one, other) for kind in PAIRED)
    return found


def all_up_to(pieces, names):
    return [saying for many in range(1, pieces + 1) for saying in all_of(many, names)]


def bits_of(saying, names):
    """The table reckoned for all ways to hold the names at once."""
    ways = 1 << len(names)
    full = (1 << ways) - 1
    kind = saying[0]
    if kind == "letter":
        place = names.index(saying[1])
        return sum(1 << k for k in range(ways) if k >> place & 1)
    one = bits_of(saying[1], names)
    if kind == "not":
        return full ^ one
    other = bits_of(saying[2], names)
    return {"and": one & other, "or": one | other, "if": full ^ one | other}[kind]


def some_saying(draw, pieces, names):
    """A saying of just so many pieces, drawn."""
    if pieces == 1:
        return ("letter", draw.choice(names))
    if pieces == 2 or draw.randrange(4) == 0:
        return no(some_saying(draw, pieces - 1, names))
    ahead = draw.randrange(1, pieces - 1)
    kind = draw.choice(PAIRED)
    return (kind, some_saying(draw, ahead, names), some_saying(draw, pieces - 1 - ahead, names))


def some_list(draw, many, names, most_pieces):
    """So many sayings, with just these names together, of up to ten more pieces for five names."""
    sayings = []
    for number in range(many):
        share = names[number::many]
        ends = [some_saying(draw, draw.randrange(1, most_pieces + 1), names)]
        ends.extend(("letter", name) for name in share)
        draw.shuffle(ends)
        saying = ends[0]
        for further in ends[1:]:
            saying = (draw.choice(PAIRED), saying, further)
        sayings.append(saying)
    return tuple(sayings)


def pieces_of(saying):
    if saying[0] == "letter":
        return [saying]
    return [saying] + [piece for inner in saying[1:] for piece in pieces_of(inner)]


def names_among(sayings):
    return tuple(sorted({piece[1] for saying in sayings for piece in pieces_of(saying) if piece[0] == "letter"}))


# Not sorted, and some begin others, so that an order by chance is told from a sorted one.
MIXED_NAMES = ("b", "aa", "letter", "a", "ab")
EACH_WAY = tuple(no(some_saying(random.Random(seed), 39, FIVE_NAMES)) for seed in range(6))

WRITTEN_LISTS = (
    (A,),
    (no(A),),
    (("and", A, no(A)),),
    (("or", A, no(A)),),
    (A, A),
    (A, no(A)),
    (A, B),
    PREMISES,
    (("and", A, B), A, B),
    (A, ("if", A, B), B),
    (A, B, ("or", A, B), ("if", A, B)),
    (("and", A, B), ("and", A, no(B)), ("and", no(A), B)),
    (("or", A, no(A)), B, ("and", B, no(B))),
    (A, B, C, ("and", A, ("and", B, C))),
    (A, B, C, ("or", A, ("or", B, C)), ("if", A, B), no(C)),
    (no(and_of(FIVE_NAMES[:4])), A, B, ("letter", "d"), C),
    (("letter", "e"), ("letter", "d"), C, B, A, and_of(FIVE_NAMES)),
    (A, ("if", A, B), ("if", B, C), C),
    (no(A), A, no(no(A)), chain_of_not(40)),
    (B, chain_of_not(39), ("or", A, ("letter", "aa"))),
    EACH_WAY,
)


def drawn_lists():
    """Two lists for each number of sayings and of names, with small and with large sayings."""
    draw = random.Random(20)
    lists = []
    for many in range(1, 7):
        for names in range(1, 6):
            lists.append(some_list(draw, many, MIXED_NAMES[:names], 3))
            lists.append(some_list(draw, many, FIVE_NAMES[:names], 30))
    return tuple(lists)


LISTS = WRITTEN_LISTS + drawn_lists()


def ways_of(sayings):
    """A dict from each way to hold the names to its row."""
    names = names_among(sayings)
    tables = [bits_of(saying, names) for saying in sayings]
    ways = {}
    for k in range(1 << len(names)):
        held = tuple(name for j, name in enumerate(names) if k >> j & 1)
        ways[held] = tuple(bool(bits >> k & 1) for bits in tables)
    return ways


def rows_of(sayings):
    return sorted(set(ways_of(sayings).values()))


def has_part(row, part):
    return all(row[number] is truth for number, truth in part)


def is_fit(rows, part):
    return any(has_part(row, part) for row in rows)


def what_follows(rows, part, number):
    truths = {row[number] for row in rows if has_part(row, part)}
    return truths.pop() if len(truths) == 1 else None


def parts_of(part):
    """Each part whose pairs are among those of this one, itself too."""
    return [less for many in range(len(part) + 1) for less in itertools.combinations(part, many)]


def one_pair_less(part):
    return list(itertools.combinations(part, len(part) - 1)) if part else []


def all_parts_of(many):
    return sorted({less for row in itertools.product((False, True), repeat=many)
                   for less in parts_of(tuple(enumerate(row)))})


def smallest_of(rows, many):
    return [
        part for part in all_parts_of(many)
        if not is_fit(rows, part) and all(is_fit(rows, less) for less in one_pair_less(part))
    ]


def who(judges, number, truth):
    return tuple(judge for judge, row in enumerate(judges) if row[number] is truth)


def what_most_say(judges):
    return tuple(sum(column) > len(judges) // 2 for column in zip(*judges))


def row_in_order(rows, judges, order):
    taken = {}
    for number in order:
        taken[number] = what_most_say(judges)[number]
        if not is_fit(rows, taken.items()):
            taken[number] = not taken[number]
    return tuple(taken[number] for number in range(len(order)))


def order_by_strength(judges):
    """Each step takes the strongest saying that is left, the first one of alike ones."""
    left = list(range(len(judges[0])))
    order = []
    while left:
        best = left[0]
        for number in left[1:]:
            if apart(judges, number) > apart(judges, best):
                best = number
        left.remove(best)
        order.append(best)
    return tuple(order)


def apart(judges, number):
    says_yes, says_no = (len(who(judges, number, truth)) for truth in (True, False))
    return max(says_yes - says_no, says_no - says_yes)


def distance_of(row, judges, weights):
    far = 0
    for judge in judges:
        for number, truth in enumerate(row):
            if judge[number] is not truth:
                far += 1 if weights is None else weights[number]
    return far


def nearest_of(rows, judges, weights):
    far = {row: distance_of(row, judges, weights) for row in sorted(rows)}
    return [row for row in far if not any(far[other] < far[row] for other in far)]


def some_judges(draw, rows, many):
    return tuple(draw.choice(rows) for _ in range(many))


def unfit_threes(rows):
    """Three judges whose most isn't fit, a few where there are such."""
    threes = itertools.combinations(rows, 3)
    return list(itertools.islice((three for three in threes if what_most_say(three) not in rows), 3))


def is_part(value):
    """A tuple of pairs of a whole number and a truth, the numbers rising."""
    if type(value) is not tuple or any(type(pair) is not tuple or len(pair) != 2 for pair in value):
        return False
    numbers = [number for number, truth in value]
    kinds = all(type(number) is int and type(truth) is bool for number, truth in value)
    return kinds and all(one < other for one, other in zip(numbers, numbers[1:]))


def is_row(value, many):
    return type(value) is tuple and len(value) == many and all(type(truth) is bool for truth in value)


SEVEN_WORDS = ("not", "and", "or", "if", "then", "say", "judge")
# Each begins like another one or like a word, or is a word with a letter more or less.
NEAR_WORDS = tuple("""
    a aa ab an ad nd andy ands band no nt ot nota nots anot knot o r orr ori for i f iff ifs fif the hen thenn thens
    athen sa ay sayer says asay essay judg udge judges ajudge n y yn letter zzzzzz
""".split())
SIGNS = tuple(chr(code) for code in range(ord(" "), ord("~") + 1)) + ("\n",)
FORMS = {"not": "not {}", "and": "({} and {})", "or": "({} or {})", "if": "(if {} then {})"}


def text_of(saying):
    if saying[0] == "letter":
        return saying[1]
    return FORMS[saying[0]].format(*(text_of(inner) for inner in saying[1:]))


def text_for(sayings, judges):
    text = "".join(f"say {text_of(saying)}\n" for saying in sayings)
    return text + "\n".join("judge " + "".join("ny"[truth] for truth in row) for row in judges)


@functools.lru_cache(maxsize=100000)
def saying_in(text):
    """The saying of any number of pieces that is so written, or None: by all places where the text can be parted."""
    if re.fullmatch("[a-z]{1,6}", text):
        return None if text in SEVEN_WORDS else ("letter", text)
    for kind, form in FORMS.items():
        ahead, *between, behind = form.split("{}")
        if len(text) > len(ahead + behind) and text.startswith(ahead) and text.endswith(behind):
            inner = text[len(ahead):len(text) - len(behind)]
            for parted in [(inner,)] if not between else parted_by(inner, between[0]):
                found = tuple(saying_in(part) for part in parted)
                if None not in found:
                    return (kind,) + found
    return None


def parted_by(text, between):
    """Each two texts with this one between them, wherever it comes, but for those with a bracket too many."""
    places = [place for place in range(len(text)) if text.startswith(between, place)]
    pairs = [(text[:place], text[place + len(between):]) for place in places]
    return [pair for pair in pairs if all(part.count("(") == part.count(")") for part in pair)]


def list_in(text):
    """The list and judges that are so written, however many and whatever they say, or None."""
    if type(text) is not str or not re.fullmatch(r"(say [^\n]+\n)+judge [yn]+(\njudge [yn]+)*", text):
        return None
    sayings = tuple(saying_in(line) for line in re.findall(r"(?<![^\n])say ([^\n]+)", text))
    judges = tuple(tuple(letter == "y" for letter in line) for line in re.findall(r"(?<=\n)judge ([yn]+)", text))
    if any(saying is None or len(pieces_of(saying)) > 40 for saying in sayings):
        return None
    return None if any(len(row) != len(sayings) for row in judges) else (sayings, judges)


def refusal_of(sayings, judges):
    """What point 21 refuses them with, as a class and a number, or None."""
    if len(sayings) not in range(1, 7) or len(judges) not in range(1, 22):
        return (OutOfBounds, None)
    if len(names_among(sayings)) > 5 or max(len(pieces_of(saying)) for saying in sayings) > 40:
        return (OutOfBounds, None)
    rows = rows_of(sayings)
    for number, row in enumerate(judges):
        if not is_row(row, len(sayings)) or row not in rows:
            return (BadRow, number)
    return (Even, None) if len(judges) % 2 == 0 else None


def refusal_of_text(text):
    """What points 20 and 21 refuse a text with, or None."""
    found = list_in(text)
    return (NoText, None) if found is None else refusal_of(*found)


def is_pair(told):
    """A tuple of two tuples, the second one of rows for the first one."""
    kinds = [type(value) for value in (told, *told)]
    return kinds == [tuple] * 3 and all(is_row(row, len(told[0])) for row in told[1])


def asked(ask, *handed):
    """What is told, and None; or None, and the class and number of the refusal."""
    try:
        return ask(*handed), None
    except JudgeError as refusal:
        return None, (type(refusal), getattr(refusal, "number", None))


NUMBER = "(?:0|[1-9][0-9]*)"
PAIR = f"(?:yes|no) {NUMBER}"
LINE = re.compile(f"(yes|no) ([^:]+): (?:judges (none|{NUMBER}(?: {NUMBER})*)|from ({PAIR}(?:, {PAIR})*))")


def line_in(line):
    """The truth, the saying and the reason that a line of a report tells; None where it isn't so written."""
    found = LINE.fullmatch(line)
    if found is None or saying_in(found[2]) is None:
        return None
    answer, saying, numbers, pairs = found.groups()
    if numbers is None:
        words = [pair.split(" ") for pair in pairs.split(", ")]
        reason = ("follows", tuple((int(number), word == "yes") for word, number in words))
    else:
        reason = ("judges", () if numbers == "none" else tuple(int(number) for number in numbers.split(" ")))
    return answer == "yes", saying_in(saying), reason


class Reasons(unittest.TestCase):
    """What the tests of answers and of ways ask of a reason."""

    def check_judges(self, reason, judges, number, truth):
        self.assertEqual(reason, ("judges", who(judges, number, truth)))
        self.assertIs(type(reason), tuple)
        self.assertIs(type(reason[1]), tuple)
        self.assertTrue(all(type(judge) is int for judge in reason[1]))

    def check_follows(self, reason, rows, answers, number, truth):
        """Of these answers, and as few of them as it follows from."""
        self.assertIs(type(reason), tuple)
        self.assertEqual((len(reason), reason[0]), (2, "follows"))
        part = reason[1]
        self.assertTrue(is_part(part), part)
        self.assertLessEqual(set(part), set(answers))
        self.assertIs(what_follows(rows, part, number), truth)
        for less in one_pair_less(part):
            self.assertIsNot(what_follows(rows, less, number), truth)

    def check_in_order(self, row, reasons, rows, judges, order):
        """Tells how many answers are other ones than most say."""
        said = what_most_say(judges)
        self.assertTrue(is_row(row, len(order)))
        self.assertIn(row, rows)
        self.assertEqual((type(reasons), len(reasons)), (list, len(order)))
        ahead, others = [], 0
        for number in order:
            if is_fit(rows, ahead + [(number, said[number])]):
                self.assertIs(row[number], said[number])
                self.check_judges(reasons[number], judges, number, row[number])
            else:
                self.assertIs(row[number], not said[number])
                self.check_follows(reasons[number], rows, ahead, number, row[number])
                others = others + 1
            ahead.append((number, row[number]))
        return others

    def check_report(self, text, sayings):
        """Tells the row and the reasons that the text speaks of."""
        self.assertIs(type(text), str)
        lines = [line_in(line) for line in text.split("\n")]
        self.assertNotIn(None, lines, text)
        self.assertEqual(tuple(saying for truth, saying, reason in lines), sayings)
        return tuple(truth for truth, saying, reason in lines), [reason for truth, saying, reason in lines]

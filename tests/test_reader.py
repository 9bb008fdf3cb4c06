"""Points 19 and 20: texts read as sayings, and as lists with judges."""

import itertools
import random
import unittest

from manyjudges.errors import BadRow, Even, NoText, OutOfBounds
from manyjudges.reader import read, read_saying
from manyjudges.shows import shown, written
from samples import (
    A, B, C, LISTS, MIXED_NAMES, NEAR_WORDS, PAIRED, PREMISES, SEVEN_WORDS, SIGNS, THREE, all_up_to, and_of, asked,
    broad, chain_of_not, is_pair, leaning, list_in, no, pieces_of, refusal_of_text, rows_of, saying_in, some_judges,
    some_list, some_saying, text_for, text_of,
)

NO_TEXTS = (None, 0, 1, -3, 10 ** 20 - 1, True, False, (), [], ("a",), ["a"], A, [A], ("say a\njudge y",), {}, {"a": 1},
            b"a", b"say a\njudge y", 1.5, object(), str)
REFUSED = (NoText, None)

READ = (
    ("a", A),
    ("letter", ("letter", "letter")),
    ("not a", no(A)),
    ("not not not a", no(no(no(A)))),
    ("(a and b)", ("and", A, B)),
    ("(a or b)", ("or", A, B)),
    ("(if a then b)", ("if", A, B)),
    ("not (not a or b)", no(("or", no(A), B))),
    ("(not (a and b) and not not c)", ("and", no(("and", A, B)), no(no(C)))),
    ("(if (if a then b) then (b and (c or a)))", ("if", ("if", A, B), ("and", B, ("or", C, A)))),
    ("((if a then b) or not b)", ("or", ("if", A, B), no(B))),
    ("not no", no(("letter", "no"))),
    ("not nota", no(("letter", "nota"))),
    ("(andy and ands)", ("and", ("letter", "andy"), ("letter", "ands"))),
    ("(orr or o)", ("or", ("letter", "orr"), ("letter", "o"))),
    ("(if iff then thenn)", ("if", ("letter", "iff"), ("letter", "thenn"))),
    ("(if the then i)", ("if", ("letter", "the"), ("letter", "i"))),
    ("(iff and ifs)", ("and", ("letter", "iff"), ("letter", "ifs"))),
    ("(i or f)", ("or", ("letter", "i"), ("letter", "f"))),
    ("(sayer or judges)", ("or", ("letter", "sayer"), ("letter", "judges"))),
    ("zzzzzz", ("letter", "zzzzzz")),
)

BLANKS = (
    "", " ", "  ", " a", "a ", " a ", "not", "not ", " not a", "not  a", "nota b", "notnot a", "not not", "not not ",
    "(a  and b)", "(a and  b)", "( a and b)", "(a and b )", "(aand b)", "(a andb)", "(aandb)", "(a or  b)", "(a  or b)",
    "(aor b)", "(a orb)", "(if  a then b)", "(if a  then b)", "(if a then  b)", "(ifa then b)", "(if athen b)",
    "(if a thenb)", "( if a then b)", "(if a then b )", " (a and b)", "(a and b) ", "not(a and b)", "(not  a or b)",
)
LINE_ENDS = (
    "\n", "\na", "a\n", "a\nb", "a\n\n", "not\na", "not a\n", "\nnot a", "(a\nand b)", "(a and\nb)", "(a\n and b)",
    "(a and b)\n", "\n(a and b)", "(if\na then b)", "(if a\nthen b)", "(if a then b\n)", "a\r", "a\r\n", "\ra",
)
BRACKETS = (
    "(a)", "((a))", "((a and b))", "(a and b", "a and b)", "a and b", "a or b", "if a then b", "(if a then b",
    "if a then b)", "(a and b))", "((a and b)", "[a and b]", "{a or b}", "<a or b>", "(a and b]", "[a and b)",
    "[if a then b]", "()", "(", ")", ")(", "( )", "(not a)", "not (a)", "not ()", "(a and (b))", ")a and b(",
    "(if (a then b))", "((if a) then b)", "(if (a) then b)", "(a and b)(a and b)",
)
PARTS_MISSING = (
    "a b", "(a b)", "(a and b) and c", "(a and b and c)", "(a or b and c)", "(if a then b then c)", "(a then b)",
    "(if a and b)", "(if a or b)", "(if a)", "(if a then)", "(if a then )", "(if then b)", "(if  then b)", "(and a b)",
    "(a and)", "(a and )", "(and b)", "( and b)", "(or b)", "(a or )", "(a not b)", "a not", "(a and not)",
    "(a and not )", "(not and b)", "(a nand b)", "(a xor b)", "(a, b)", "a.", "(then a if b)", "(a if b)", "(not a b)",
    "not a b", "not a and b", "(if a then b or c)", "(a say b)", "say a", "judge y", "(if a then b) then c",
)
OTHER_SIGNS = (
    "A", "Z", "Not a", "NOT a", "nOt a", "(a AND b)", "(a Or b)", "(If a then b)", "(if a Then b)", "aB", "Ab", "a1",
    "1a", "1", "0", "not 1", "(a and 2)", "a_b", "a-b", "a'", "a%", "~a", "!a", "-a", "`", "{", "@", "a|b", "(a&b)",
    "abcdefg", "zzzzzzz", "judgess", "letters", "not abcdefg", "(abcdefg or a)", "(a or abcdefg)",
    "(if abcdefg then a)", "(if a then abcdefg)", "aaaaaaaaaaaaa",
)
AROUND_A_NAME = ("{}", "not {}", "({} and a)", "(a and {})", "({} or a)", "(a or {})", "(if {} then a)",
                 "(if a then {})", "not not {}", "((a or {}) and b)")


def all_changes(text):
    """Each text with a sign put in, put in another's place or left out, two exchanged, a stretch twice or left out."""
    for place in range(len(text) + 1):
        for sign in SIGNS:
            yield text[:place] + sign + text[place:]
            yield text[:place] + sign + text[place + 1:]
    for start, end in itertools.combinations(range(len(text) + 1), 2):
        yield text[:start] + text[end:]
        yield text[:end] + text[start:]
        if end < len(text):
            yield text[:start] + text[end] + text[start + 1:end] + text[start] + text[end + 1:]


def some_change(draw, text):
    """One of these, drawn; half of the signs put in come from the text itself."""
    start = draw.randrange(len(text))
    end = draw.randrange(start + 1, min(len(text), start + draw.choice((1, 2, 4, 12))) + 1)
    sign = draw.choice(SIGNS if draw.randrange(2) else text)
    return draw.choice((
        text[:start] + sign + text[start:],
        text[:start] + sign + text[start + 1:],
        text[:start] + text[start + 1:],
        text[:start] + text[end:],
        text[:end] + text[start:],
        text[:start] + text[end - 1:end] + text[start + 1:end - 1] + text[start] + text[end:],
    ))


class ReadSaying(unittest.TestCase):
    def check(self, text):
        """Tells whether the text is read."""
        expected = saying_in(text)
        if expected is not None and len(pieces_of(expected)) > 40:
            expected = None
        told, refusal = asked(read_saying, text)
        self.assertEqual(told, expected, repr(text))
        self.assertEqual(refusal, REFUSED if expected is None else None, repr(text))
        return refusal is None

    def check_refused(self, text):
        self.assertEqual(asked(read_saying, text), (None, REFUSED), repr(text))

    def check_kinds(self, saying):
        self.assertIs(type(saying), tuple)
        for piece in pieces_of(saying):
            self.assertIs(type(piece), tuple)
            self.assertIs(type(piece[0]), str)
            if piece[0] == "letter":
                self.assertIs(type(piece[1]), str)

    def test_what_is_read(self):
        for text, saying in READ:
            self.assertEqual(read_saying(text), saying, text)
            self.check_kinds(read_saying(text))
            self.assertTrue(self.check(text))

    def test_what_is_refused(self):
        for text in BLANKS + LINE_ENDS + BRACKETS + PARTS_MISSING + OTHER_SIGNS:
            self.check_refused(text)
            self.assertFalse(self.check(text), text)

    def test_what_is_no_text(self):
        for thing in NO_TEXTS:
            self.check_refused(thing)

    def test_no_word_is_a_name(self):
        for around in AROUND_A_NAME:
            for word in SEVEN_WORDS:
                self.check_refused(around.format(word))
                self.assertFalse(self.check(around.format(word)))

    def test_names_near_a_word(self):
        letters = "abdefghijnorstuyz"
        names = list(NEAR_WORDS)
        for word in SEVEN_WORDS:
            names.extend(word[:place] + word[place + 1:] for place in range(len(word)))
            names.extend(word[:place] + letter + word[place:] for place in range(len(word) + 1) for letter in letters)
        for name in names:
            if name not in SEVEN_WORDS:
                for around in AROUND_A_NAME:
                    self.assertTrue(self.check(around.format(name)), around.format(name))

    def test_names_of_each_length(self):
        for many in range(10):
            for around in AROUND_A_NAME:
                self.assertEqual(self.check(around.format("abcdefghij"[:many])), 1 <= many <= 6)

    def test_each_sign_by_itself_and_in_a_name(self):
        for sign in SIGNS:
            small = "a" <= sign <= "z"
            for text in (sign, "a" + sign, sign + "a", "ab" + sign + "cd", "not " + sign, f"({sign} or a)"):
                self.assertEqual(self.check(text), small, text)

    def test_all_short_texts_of_words(self):
        words = ("a", "nota", "not ", "not", " and ", " or ", "(if ", "if ", " then ", "(", ")", " ")
        found = 0
        for many in range(5):
            for chosen in itertools.product(words, repeat=many):
                found = found + self.check("".join(chosen))
        for chosen in itertools.product(words[:5] + words[5:7] + words[8:11], repeat=5):
            found = found + self.check("".join(chosen))
        self.assertGreater(found, 30)

    def test_all_short_texts_of_signs(self):
        for many in range(5):
            for chosen in itertools.product("notaif( )", repeat=many):
                self.check("".join(chosen))

    def test_small_sayings(self):
        for saying in all_up_to(5, ("a", "orb")):
            self.assertEqual(read_saying(shown(saying)), saying)

    def test_each_number_of_pieces(self):
        draw = random.Random(70)
        for pieces in range(1, 41):
            for _ in range(10):
                saying = some_saying(draw, pieces, NEAR_WORDS)
                self.assertEqual(read_saying(text_of(saying)), saying)
                self.assertEqual(read_saying(shown(saying)), saying)
                self.check_kinds(read_saying(shown(saying)))

    def test_forty_pieces_and_forty_one(self):
        draw = random.Random(71)
        forty = [chain_of_not(40), no(broad(NEAR_WORDS[:20])), no(leaning("or", 20, True))]
        forty.append(no(leaning("and", 20, False)))
        forty.extend(some_saying(draw, 40, NEAR_WORDS) for _ in range(30))
        for saying in forty:
            self.assertEqual(len(pieces_of(saying)), 40)
            self.assertEqual(read_saying(shown(saying)), saying)
        beyond = [chain_of_not(41), broad(NEAR_WORDS[:21]), and_of(NEAR_WORDS[:21])]
        beyond.extend(leaning(kind, 21, right) for kind in PAIRED for right in (True, False))
        beyond.extend(some_saying(draw, 41, NEAR_WORDS) for _ in range(30))
        for saying in beyond:
            self.assertEqual(len(pieces_of(saying)), 41)
            self.check_refused(shown(saying))
        for saying in forty:
            self.check_refused(shown(no(saying)))

    def test_far_more_pieces(self):
        for pieces in (42, 60, 80, 119, 120):
            self.check_refused(shown(some_saying(random.Random(pieces), pieces, NEAR_WORDS)))

    def test_more_than_five_names(self):
        saying = broad(NEAR_WORDS[:20])
        self.assertEqual(read_saying(shown(saying)), saying)

    def test_texts_of_three_thousand_signs(self):
        texts = ["not " * 749 + "a"]
        for ahead, behind in (("(a and ", ")"), ("(", " or a)"), ("(if a then ", ")"), ("(if ", " then a)")):
            many = 2990 // len(ahead + behind)
            texts.append(ahead * many + "a" + behind * many)
        for sign in SIGNS:
            texts.append(sign * 3000)
        for word in ("not ", "(if ", "(a and ", "((a or ", "not (", "a and ", "() ", "not", "(a and b)", "a\n", " a"):
            texts.append(word * (3000 // len(word)))
        for text in texts:
            self.check_refused(text)
            self.check_refused("a" + text)

    def test_all_changes_of_small_texts(self):
        for text in ("a", "nota", "not a", "(a and b)", "(a or no)", "(if a then b)", "not (not iff or andy)"):
            seen = [self.check(changed) for changed in all_changes(text)]
            self.assertGreater(min(seen.count(True), seen.count(False)), 20, text)

    def test_changes_of_any_texts(self):
        draw = random.Random(72)
        seen = []
        for pieces in range(1, 43):
            for _ in range(25):
                text = text_of(some_saying(draw, pieces, NEAR_WORDS))
                seen.extend(self.check(some_change(draw, text)) for _ in range(10))
                seen.append(self.check(some_change(draw, some_change(draw, text) or "a")))
        self.assertGreater(min(seen.count(True), seen.count(False)), 1000)

    def test_asked_again_with_another_between(self):
        draw = random.Random(73)
        for _ in range(200):
            text, other = (text_of(some_saying(draw, draw.randrange(1, 41), NEAR_WORDS)) for _ in range(2))
            first = read_saying(text)
            for wrong in (other[:-1] + "(", text + " ", "not " * 40 + text, None):
                self.check_refused(wrong)
                read_saying(other)
                self.check_refused(wrong)
                self.assertEqual(read_saying(text), first)


class Read(unittest.TestCase):
    def check(self, text):
        """Tells the class of the refusal, or None."""
        expected = refusal_of_text(text)
        told, refusal = asked(read, text)
        self.assertEqual(refusal, expected, repr(text))
        self.assertEqual(told, list_in(text) if expected is None else None, repr(text))
        return None if refusal is None else refusal[0]

    def check_refused(self, text):
        self.assertEqual(asked(read, text), (None, REFUSED), repr(text))
        if type(text) is str:
            self.assertIs(self.check(text), NoText)

    def check_told(self, text, sayings, judges):
        self.assertEqual(read(text), (sayings, judges))
        self.assertTrue(is_pair(read(text)))

    def test_what_is_read(self):
        self.check_told("say a\njudge y", (A,), ((True,),))
        self.check_told("say not a\njudge n", (no(A),), ((False,),))
        self.check_told("say a\nsay b\nsay (a and b)\njudge yyy\njudge ynn\njudge nyn", PREMISES, THREE)
        self.check_told("say says\njudge n\njudge y\njudge n", (("letter", "says"),), ((False,), (True,), (False,)))

    def test_every_list_with_each_number_of_judges(self):
        draw = random.Random(74)
        for number, sayings in enumerate(LISTS):
            rows = rows_of(sayings)
            for many in (1, 3, number % 11 * 2 + 1, 21):
                judges = some_judges(draw, rows, many)
                self.check_told(text_for(sayings, judges), sayings, judges)
                self.check_told(written(sayings, judges), sayings, judges)
            for many in (2, number % 10 * 2 + 2, 20):
                self.assertIs(self.check(written(sayings, some_judges(draw, rows, many))), Even)

    def test_what_is_no_text(self):
        for thing in NO_TEXTS:
            self.check_refused(thing)

    def test_lines_that_are_not_so_written(self):
        for text in (
            "", "\n", " ", "a", "say a", "judge y", "judge ", "judge", "say ", "say", "say \njudge y", "say\njudge y",
            "say a\n", "say a\njudge", "say a\njudge ", "say a\njudge\n", "say a\njudge \n", "\njudge y",
            " \njudge y", "say a\njudge y\n", "\nsay a\njudge y", "say a\n\njudge y", "say a\njudge y\n\n",
            "say a\njudge y\n ", "say a\njudge y ", "say a \njudge y", " say a\njudge y", "say a\n judge y",
            "say  a\njudge y", "say a\njudge  y", "saya\njudge y", "say a\njudgey", "says a\njudge y",
            "say a\njudges y", "Say a\njudge y", "say a\nJudge y", "sa a\njudge y", "say a\njudg y",
            "say: a\njudge: y", "say a judge y", "say a\rjudge y", "say a\r\njudge y", "say a\njudge y\r",
            "judge y\nsay a", "say a\njudge y\nsay b", "a\njudge y", "say a\ny", "say a\njudge y\nsay b\njudge yy",
            "say a\njudge y\nsay a", "say a\nsay b\njudge y", "say a\njudge yy", "say a\nsay b\njudge yyy",
            "say a\nsay b\njudge yn\njudge y\njudge nn", "say a\njudge yes", "say a\njudge Y", "say a\njudge N",
            "say a\njudge x", "say a\njudge 1", "say a\njudge True", "say a\nsay b\njudge y n",
            "say a\nsay b\njudge y,n", "say a\nsay b\njudge yx", "say a\nsay b\njudge y\njudge n",
            "say a, b\njudge yn", "say a b\njudge yn", "say a\njudge y\njudge", "say a\njudge y\njudge y\njudge ",
            "say a\njudge y\njudge y\n", "say a\njudge y\n\njudge y\njudge y", "judge y\nsay a\njudge y",
            "judge \nsay a\njudge y", "say\nsay a\njudge y", "say judge y", "say say a\njudge y",
            "say judge\njudge y", "judge \njudge \njudge ", "SAY A\nJUDGE Y", "say a;judge y", "say (a)\njudge y",
            "say not\njudge y",
        ):
            self.check_refused(text)

    def test_sayings_that_are_not_so_written(self):
        for text in BLANKS + LINE_ENDS + BRACKETS + PARTS_MISSING + OTHER_SIGNS:
            self.check_refused(f"say {text}\njudge y")
            self.check_refused(f"say a\nsay {text}\njudge yn\njudge nn\njudge ny")
            self.check_refused(f"say {text}\nsay a\njudge yn")
            self.check(f"say a\n{text}\njudge y\njudge y\njudge y")

    def test_forty_pieces_and_forty_one(self):
        forty, beyond = chain_of_not(40), chain_of_not(41)
        self.check_told(f"say a\nsay {shown(forty)}\njudge yn", (A, forty), ((True, False),))
        self.check_refused(f"say a\nsay {shown(beyond)}\njudge yy")
        self.check_refused(f"say {shown(beyond)}\njudge y\njudge n")
        self.check_refused("say a\n" * 6 + f"say {shown(beyond)}\njudge yyyyyyy")

    def test_as_many_letters_as_sayings(self):
        for many in range(1, 7):
            sayings = (A,) * many
            for letters in range(10):
                found = self.check("say a\n" * many + "judge " + "y" * letters)
                self.assertIs(found, None if letters == many else NoText)
                found = self.check(text_for(sayings, ((True,) * many,) * 2) + "\njudge " + "n" * letters)
                self.assertIs(found, None if letters == many else NoText)

    def test_one_to_seven_sayings(self):
        for many in range(1, 12):
            text = "say a\n" * many + "judge " + "y" * many
            self.assertIs(self.check(text), None if many <= 6 else OutOfBounds)
            self.assertIs(self.check(text + "\n" + text.split("\n")[-1]), Even if many <= 6 else OutOfBounds)

    def test_five_names_and_six(self):
        names = ("a", "b", "c", "d", "e", "f")
        for many in range(1, 7):
            text = "\n".join(f"say {name}" for name in names[:many]) + "\njudge " + "y" * many
            self.assertIs(self.check(text), None if many <= 5 else OutOfBounds)
            text = f"say {shown(and_of(names[:many]))}\njudge n"
            self.assertIs(self.check(text), None if many <= 5 else OutOfBounds)

    def test_each_number_of_judges(self):
        for many in range(1, 61):
            expected = OutOfBounds if many > 21 else Even if many % 2 == 0 else None
            self.assertIs(self.check("say a\nsay not a" + "\njudge yn" * many), expected)

    def test_an_unfit_row_at_each_place(self):
        for many in range(1, 23):
            for place in range(many):
                rows = ["judge yn"] * many
                rows[place] = "judge yy"
                text = "say a\nsay not a\n" + "\n".join(rows)
                expected = (OutOfBounds, None) if many > 21 else (BadRow, place)
                self.assertEqual(asked(read, text), (None, expected))
                self.check(text)
                self.check_refused(text + "\n")

    def test_texts_of_three_thousand_signs(self):
        long = shown(leaning("if", 20, True))
        for text, expected in (
            ("say a\n" * 480 + "judge " + "y" * 480, OutOfBounds),
            ("say a\n" * 480 + "judge " + "y" * 479, NoText),
            ("say a" + "\njudge y" * 370, OutOfBounds),
            ("say a" + "\njudge y" * 370 + "\n", NoText),
            ("say a\n" * 60 + ("judge " + "y" * 60 + "\n") * 39 + "judge " + "n" * 60, OutOfBounds),
            (f"say {long}\n" * 10 + "judge " + "y" * 10, OutOfBounds),
            (f"say {long}\n" * 10 + "judge " + "y" * 10 + "\n", NoText),
            ("say " + "(" * 2900 + "\njudge y", NoText),
            ("say a\njudge " + "y" * 2900, NoText),
            ("\n" * 3000, NoText),
            ("say a\n" * 500, NoText),
            ("judge y\n" * 370 + "judge y", NoText),
        ):
            self.assertIs(self.check(text), expected)
        self.assertEqual(asked(read, "say " + "not " * 740 + "a\njudge y"), (None, REFUSED))
        self.assertEqual(asked(read, "say " + "(a or " * 330 + "a" + ")" * 330 + "\njudge y"), (None, REFUSED))

    def test_lines_left_out_twice_or_exchanged(self):
        draw = random.Random(75)
        seen = {}
        for sayings in LISTS[6:]:
            judges = some_judges(draw, rows_of(sayings), draw.choice((1, 3, 5)))
            lines = text_for(sayings, judges).split("\n")
            changed = [lines[:place] + lines[place + 1:] for place in range(len(lines))]
            changed.extend(lines[:place] + lines[place:place + 1] + lines[place:] for place in range(len(lines)))
            changed.extend(lines[:place] + [empty] + lines[place:] for place in range(len(lines) + 1)
                           for empty in ("", " ", "say", "judge", "judge ", lines[0], lines[-1]))
            changed.append(lines[::-1])
            changed.append(lines + lines)
            for one, other in itertools.combinations(range(len(lines)), 2):
                turned = list(lines)
                turned[one], turned[other] = lines[other], lines[one]
                changed.append(turned)
            for chosen in changed:
                found = self.check("\n".join(chosen))
                seen[found] = seen.get(found, 0) + 1
        self.assertEqual(set(seen), {None, NoText, BadRow, Even})
        self.assertGreater(min(seen.values()), 10, seen)

    def test_other_letters(self):
        draw = random.Random(76)
        seen = {}
        for sayings in LISTS:
            judges = some_judges(draw, rows_of(sayings), draw.choice((1, 2, 3)))
            lines = text_for(sayings, judges).split("\n")
            for place in range(len(sayings), len(lines)):
                letters = lines[place][len("judge "):]
                at = draw.randrange(len(letters))
                for other in ("y", "n", "", "yn", "Y", "x", "1", " ", "\n", draw.choice(SIGNS)):
                    changed = list(lines)
                    changed[place] = "judge " + letters[:at] + other + letters[at + 1:]
                    found = self.check("\n".join(changed))
                    seen[found] = seen.get(found, 0) + 1
        self.assertEqual(set(seen), {None, NoText, BadRow, Even})
        self.assertGreater(min(seen.values()), 50, seen)

    def test_all_changes_of_small_texts(self):
        for text in ("say a\njudge y", "say a\nsay b\njudge yn", "say a\njudge y\njudge n"):
            for changed in all_changes(text):
                self.check(changed)

    def test_changes_of_any_texts(self):
        draw = random.Random(77)
        seen = {}
        for _ in range(500):
            sayings = some_list(draw, draw.randrange(1, 8), MIXED_NAMES[:draw.randrange(1, 6)], 12)
            judges = some_judges(draw, rows_of(sayings), draw.randrange(1, 23))
            text = text_for(sayings, judges)
            turned = text.rpartition("\n")[0] + "\njudge " + "".join(draw.choice("yn") for _ in sayings)
            for changed in (text, turned, *(some_change(draw, text) for _ in range(3))):
                found = self.check(changed)
                seen[found] = seen.get(found, 0) + 1
        self.assertEqual(set(seen), {None, NoText, OutOfBounds, BadRow, Even})
        self.assertGreater(min(seen.values()), 10, seen)

    def test_asked_again_with_another_between(self):
        good = (text_for(PREMISES, THREE), "say a\njudge y")
        wrong = (
            ("say a", REFUSED), ("say a\njudge y\n", REFUSED), (None, REFUSED),
            ("say a\njudge y\njudge n", (Even, None)),
            ("say a\n" * 7 + "judge yyyyyyy", (OutOfBounds, None)), ("say a\nsay a\njudge yy\njudge yn", (BadRow, 1)),
        )
        for text, refusal in wrong:
            for between in good:
                self.assertEqual(asked(read, text), (None, refusal))
                self.assertEqual(asked(read, between), (list_in(between), None))
                self.assertEqual(asked(read, text), (None, refusal))


if __name__ == "__main__":
    unittest.main()

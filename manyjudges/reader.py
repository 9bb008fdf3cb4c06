"""Texts read as sayings, and as lists with judges."""

from manyjudges.errors import NoText
from manyjudges.seats import MOST_PIECES, seated

SMALL_LETTERS = "abcdefghijklmnopqrstuvwxyz"
LONGEST_NAME = 6
WORDS = ("not", "and", "or", "if", "then", "say", "judge")
TRUTHS = {"y": True, "n": False}


# The text of one saying, and how far it is read.
class Reading:
    def __init__(self, text):
        self.text = text
        self.place = 0
        self.pieces = 0

    def is_next(self, signs):
        return self.text.startswith(signs, self.place)

    def skip(self, signs):
        if not self.is_next(signs):
            raise NoText(f"{signs!r} is missing")
        self.place = self.place + len(signs)

    def take_name(self):
        start = self.place
        while self.place < len(self.text) and self.text[self.place] in SMALL_LETTERS:
            self.place = self.place + 1
        name = self.text[start:self.place]
        if name == "" or len(name) > LONGEST_NAME or name in WORDS:
            raise NoText(f"{name!r} is no name")
        return name

    def take_if(self):
        self.skip("(if ")
        one = self.take_saying()
        self.skip(" then ")
        other = self.take_saying()
        self.skip(")")
        return ("if", one, other)

    def take_pair(self):
        self.skip("(")
        one = self.take_saying()
        kind = "and" if self.is_next(" and ") else "or"
        self.skip(f" {kind} ")
        other = self.take_saying()
        self.skip(")")
        return (kind, one, other)

    def take_saying(self):
        self.pieces = self.pieces + 1
        # Refused as soon as it is one too many, so that no text leads deeper than there are pieces.
        if self.pieces > MOST_PIECES:
            raise NoText("a saying must have at most forty pieces")
        # Neither not nor if is a name, so the blank behind one of them settles which saying begins here.
        if self.is_next("not "):
            self.skip("not ")
            return ("not", self.take_saying())
        if self.is_next("(if "):
            return self.take_if()
        if self.is_next("("):
            return self.take_pair()
        return ("letter", self.take_name())


def check_text(text):
    if not isinstance(text, str):
        raise NoText("this is no text")


def read_saying(text):
    check_text(text)
    reading = Reading(text)
    saying = reading.take_saying()
    if reading.place < len(text):
        raise NoText("something stands behind the saying")
    return saying


def read_row(line, many):
    letters = line[len("judge "):]
    if not line.startswith("judge ") or len(letters) != many:
        raise NoText("a judge must have a letter for each saying")
    for letter in letters:
        if letter not in TRUTHS:
            raise NoText("a judge's letters must be y and n")
    return tuple([TRUTHS[letter] for letter in letters])


def read(text):
    check_text(text)
    sayings = []
    judges = []
    for line in text.split("\n"):
        if line.startswith("say ") and judges == []:
            sayings.append(read_saying(line[len("say "):]))
        else:
            judges.append(read_row(line, len(sayings)))
    if sayings == [] or judges == []:
        raise NoText("there must be a line for a saying and one for a judge")
    return seated(tuple(sayings), tuple(judges))

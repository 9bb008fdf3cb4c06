"""Sayings that several tests ask of."""

A = ("letter", "a")
B = ("letter", "b")
C = ("letter", "c")
FIVE_NAMES = ("a", "b", "c", "d", "e")
PAIRED = ("and", "or", "if")


def no(saying):
    return ("not", saying)


def chain_of_not(pieces):
    saying = A
    for _ in range(pieces - 1):
        saying = no(saying)
    return saying


def leaning(kind, letters, right):
    """A saying as deep as its letters allow: 2 * letters - 1 pieces."""
    saying = A
    for _ in range(letters - 1):
        saying = (kind, B, saying) if right else (kind, saying, B)
    return saying


def broad(names):
    """A saying that halves at each step, of 2 * len(names) - 1 pieces."""
    if len(names) == 1:
        return ("letter", names[0])
    half = len(names) // 2
    return (PAIRED[len(names) % 3], broad(names[:half]), broad(names[half:]))


def all_of(pieces, names):
    """All sayings of just so many pieces over the names."""
    if pieces == 1:
        return [("letter", name) for name in names]
    found = [no(saying) for saying in all_of(pieces - 1, names)]
    for ahead in range(1, pieces - 1):
        for one in all_of(ahead, names):
            for other in all_of(pieces - 1 - ahead, names):
                found.extend((kind, one, other) for kind in PAIRED)
    return found


def all_up_to(pieces, names):
    return [saying for many in range(1, pieces + 1) for saying in all_of(many, names)]


def bits_of(saying, names):
    """The table reckoned for all ways to hold the names at once."""
    ways = 1 << len(names)
    full = (1 << ways) - 1
    kind = saying[0]
    if kind == "letter":
        place = names.index(saying[1])
        return sum(1 << k for k in range(ways) if k >> place & 1)
    one = bits_of(saying[1], names)
    if kind == "not":
        return full ^ one
    other = bits_of(saying[2], names)
    return {"and": one & other, "or": one | other, "if": full ^ one | other}[kind]

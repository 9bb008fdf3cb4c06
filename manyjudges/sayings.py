"""Sayings: their pieces, their names, and where they are so."""


def pieces_in(saying):
    if saying[0] == "letter":
        return 1
    pieces = 1
    for inner in saying[1:]:
        pieces = pieces + pieces_in(inner)
    return pieces


def letters_in(saying):
    if saying[0] == "letter":
        return [saying[1]]
    letters = []
    for inner in saying[1:]:
        letters.extend(letters_in(inner))
    return letters


def names_in(saying):
    return tuple(sorted(set(letters_in(saying))))


def is_so(saying, held):
    kind = saying[0]
    if kind == "letter":
        return saying[1] in held
    if kind == "not":
        return not is_so(saying[1], held)
    one = is_so(saying[1], held)
    other = is_so(saying[2], held)
    if kind == "and":
        return one and other
    if kind == "or":
        return one or other
    return not one or other

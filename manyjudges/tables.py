"""Tables of sayings: a whole number with a bit for each way to hold the names."""

from manyjudges.sayings import is_so


def ways_to_hold(names):
    ways = 1
    for name in names:
        ways = ways * 2
    return ways


def held_by(number, names):
    held = []
    rest = number
    for name in names:
        if rest % 2 == 1:
            held.append(name)
        rest = rest // 2
    return tuple(held)


def table(saying, names):
    bits = 0
    worth = 1
    for number in range(ways_to_hold(names)):
        if is_so(saying, held_by(number, names)):
            bits = bits + worth
        worth = worth * 2
    return bits

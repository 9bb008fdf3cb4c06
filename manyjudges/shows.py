"""Sayings, lists and judges written as texts."""


def shown(saying):
    kind = saying[0]
    if kind == "letter":
        return saying[1]
    one = shown(saying[1])
    if kind == "not":
        return f"not {one}"
    other = shown(saying[2])
    if kind == "if":
        return f"(if {one} then {other})"
    return f"({one} {kind} {other})"


def letters_for(row):
    return "".join(["y" if truth else "n" for truth in row])


def written(sayings, judges):
    lines = ["say " + shown(saying) for saying in sayings]
    lines.extend(["judge " + letters_for(row) for row in judges])
    return "\n".join(lines)

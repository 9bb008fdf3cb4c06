"""What a way comes to, as a text with a line for each saying."""

from manyjudges.shows import shown


def yes_or_no(truth):
    return "yes" if truth else "no"


def judges_shown(numbers):
    if numbers == ():
        return "judges none"
    return "judges " + " ".join([str(number) for number in numbers])


def part_shown(part):
    return "from " + ", ".join([yes_or_no(truth) + " " + str(number) for number, truth in part])


def reason_shown(reason):
    if reason[0] == "judges":
        return judges_shown(reason[1])
    return part_shown(reason[1])


def line_for(truth, saying, reason):
    return yes_or_no(truth) + " " + shown(saying) + ": " + reason_shown(reason)


def report(way, sayings, judges):
    row = way.row(sayings, judges)
    reasons = way.reasons(sayings, judges)
    return "\n".join([line_for(truth, saying, reason) for truth, saying, reason in zip(row, sayings, reasons)])

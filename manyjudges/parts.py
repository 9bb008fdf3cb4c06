"""The smallest parts that no held letters make so."""

from manyjudges.fits import any_agrees, fit_rows


def all_parts(many):
    parts = [()]
    for number in range(many):
        with_no = [part + ((number, False),) for part in parts]
        with_yes = [part + ((number, True),) for part in parts]
        parts = parts + with_no + with_yes
    return parts


def without(part, pair):
    return tuple([kept for kept in part if kept != pair])


def is_smallest_unfit(rows, part):
    if any_agrees(rows, part):
        return False
    return all([any_agrees(rows, without(part, pair)) for pair in part])


def smallest_unfit(sayings):
    rows = fit_rows(sayings)
    return sorted([part for part in all_parts(len(sayings)) if is_smallest_unfit(rows, part)])


def always_fit(sayings):
    return all([len(part) <= 2 for part in smallest_unfit(sayings)])


def needed_against(rows, part, others):
    """Pairs of the part that agree with no row together with the others, and of which none can be spared."""
    # One walk is enough: a pair that can't be spared now can't be when further ones are gone.
    needed = part
    for pair in part:
        less = without(needed, pair)
        if not any_agrees(rows, less + others):
            needed = less
    return needed

"""Who says what, and what most judges say."""


def who_say(judges, number, truth):
    return [judge for judge, row in enumerate(judges) if row[number] == truth]


def most_say_yes(judges, number):
    return 2 * len(who_say(judges, number, True)) > len(judges)


def most(judges):
    return tuple([most_say_yes(judges, number) for number in range(len(judges[0]))])

"""The refusals of the program, all under JudgeError."""


class JudgeError(ValueError):
    pass


class NoText(JudgeError):
    pass


class OutOfBounds(JudgeError):
    pass


class BadRow(JudgeError):
    def __init__(self, number):
        self.number = number


class Even(JudgeError):
    pass


class Barred(JudgeError):
    def __init__(self, part):
        self.part = part

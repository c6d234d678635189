"""The refusals: each is a LeftError, and none stands under another one."""


class LeftError(ValueError):
    pass


class NoPrime(LeftError):
    pass


class NoFraction(LeftError):
    pass


class NoPlace(LeftError):
    pass


class NoFigures(LeftError):
    pass


class NoText(LeftError):
    pass


class Unlike(LeftError):
    pass


class NoQuotient(LeftError):
    pass


class NoPower(LeftError):
    pass


class TooFew(LeftError):
    pass


class NoSize(LeftError):
    pass


class NoPolynomial(LeftError):
    pass


class NoDepth(LeftError):
    pass


class NoRoot(LeftError):
    pass


class NotNear(LeftError):
    pass

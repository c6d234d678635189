"""Things that several tests hand in."""

from decimal import Decimal
from fractions import Fraction


class Odd:
    """Neither compares nor shows itself: nothing may be asked of it but its kind."""

    __hash__ = None

    def refuse(self, *others):
        raise RuntimeError("nothing is to be asked of this thing")

    __eq__ = __ne__ = __lt__ = __le__ = __gt__ = __ge__ = refuse
    __bool__ = __len__ = __iter__ = __repr__ = __str__ = __int__ = __index__ = refuse


def no_whole_numbers():
    """Things of other kinds, made anew for each asker; some are equal to whole numbers."""
    return [
        True, False, None, 2.0, 0.5, 1.0, 0.0, float("nan"), float("inf"), 3 + 0j, "2", "", "7", b"2",
        [], [2], (), (2,), {}, {2: 2}, {2}, frozenset(), range(2), Fraction(2, 1), Fraction(3, 2), Decimal(2),
        int, len, object(), Odd(), NotImplemented, Ellipsis,
    ]


def great(figures, seed):
    """A whole number of just so many figures, the same for the same seed."""
    number = seed + 1
    text = ""
    while len(text) < figures:
        number = (number * 6364136223846793005 + 1442695040888963407) % 18446744073709551616
        text += str(number // 65536)
    return int("1" + text[1:figures])

"""How near two left numbers are: figures at places, where two part, cuts, what two have in common."""

from leftnumbers.lefts import end_of, known_of, left_number, refuse_unlike


def figure_at(one, place):
    if place >= end_of(one):
        return None
    if place < one[1]:
        return 0
    return one[2][place - one[1]]


def begins_with(one, other):
    refuse_unlike(one, other)
    return end_of(other) <= end_of(one) and parted_at(one, other) is None


def parted_at(one, other):
    refuse_unlike(one, other)
    if one[1] != other[1]:
        # At the lesser least place the other figure is a known 0; a bare one knows nothing there.
        lower = one if one[1] < other[1] else other
        return None if known_of(lower) == 0 else lower[1]
    for number, pair in enumerate(zip(one[2], other[2])):
        if pair[0] != pair[1]:
            return one[1] + number
    return None


def cut_at(one, place):
    if place >= end_of(one):
        return one
    if place <= one[1]:
        return (one[0], place, ())
    return (one[0], one[1], one[2][:place - one[1]])


def common_of(one, other):
    place = parted_at(one, other)
    # Where they don't part, the one with the lesser end is what is left of either.
    return cut_at(one, end_of(other) if place is None else place)


def moved_by(one, far):
    return (one[0], one[1] + far, one[2])


def lengthened(one, figure):
    return left_number(one[0], one[1], one[2] + (figure,))

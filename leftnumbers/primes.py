"""Whole numbers, the primes up to 97, and how often a prime divides a whole number."""

PRIMES = (2, 3, 5, 7, 11, 13, 17, 19, 23, 29, 31, 37, 41, 43, 47, 53, 59, 61, 67, 71, 73, 79, 83, 89, 97)


def is_whole(thing):
    # Python counts True and False among the ints; the document doesn't.
    return isinstance(thing, int) and not isinstance(thing, bool)


def is_prime(thing):
    # 2.0 and True are equal to ints, so the kind is asked first.
    return is_whole(thing) and thing in PRIMES


def exponent(p, number):
    # Every power of p divides 0, so the search below would never end.
    if number == 0:
        raise ZeroDivisionError("0 has no exponent")
    # Each power is the square of the one ahead: few divisions do even where p divides thousands of times.
    powers = []
    power = p
    while number % power == 0:
        powers.append(power)
        power = power * power
    times = 0
    for power in reversed(powers):
        # Doubled at each step, a division counts as often as p stands in its power.
        times = times * 2
        if number % power == 0:
            number = number // power
            times = times + 1
    return times


def power_of(p, times):
    # By squares, so that 0, 1 and -1 can be taken any number of times.
    power = 1
    for bit in range(times.bit_length() - 1, -1, -1):
        power = power * power
        if (times >> bit) % 2 == 1:
            power = power * p
    return power

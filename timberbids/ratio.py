"""Fractions, each a tuple of a numerator and a positive denominator."""


def common_divisor(first, second):
    """The greatest whole number that divides both."""
    while second != 0:
        rest = first % second
        first = second
        second = rest
    return first


def lowest_terms(top, bottom):
    """The fraction of top, 0 or more, and bottom, more than 0."""
    divisor = common_divisor(top, bottom)
    return (top // divisor, bottom // divisor)


def nearest(fraction):
    """The whole number that is nearest to the fraction; ties round up."""
    return (2 * fraction[0] + fraction[1]) // (2 * fraction[1])

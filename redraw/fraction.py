"""Fractions as pairs of whole numbers in lowest terms."""


def common_divisor(one, other):
    """The greatest number that divides both."""
    while other != 0:
        one, other = other, one % other
    return one


def lowest(above, below):
    """The fraction of a number from 0 on by one from 1 on, in lowest terms."""
    divisor = common_divisor(above, below)
    return (above // divisor, below // divisor)

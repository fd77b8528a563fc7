"""Means as pairs of integers without a common divisor greater than 1."""


def common_divisor(one, other):
    """Give the greatest common divisor of two integers of at least 0."""
    while other > 0:
        one, other = other, one % other
    return one


def lowest(total, many):
    """Give the mean of so many costs with this total, as a pair without a common divisor."""
    divisor = common_divisor(total, many)
    return (total // divisor, many // divisor)


def is_mean(pair):
    """Tell whether a pair of integers is a mean in its lowest terms."""
    total, many = pair
    return total >= 0 and many >= 1 and common_divisor(total, many) == 1

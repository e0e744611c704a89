"""Integers, names of legs, quotients and powers."""

LETTERS = "abcdefghijklmnopqrstuvwxyz"
LONGEST = 8
RESERVED = ("ground", "power", "nothing")


def is_integer(value):
    """Whether any value is an int that is not a bool."""
    return isinstance(value, int) and not isinstance(value, bool)


def is_between(value, least, most):
    """Whether any value is an integer from least to most."""
    return is_integer(value) and least <= value <= most


def is_name(value):
    """Whether any value is a name of a leg."""
    if not isinstance(value, str) or not 1 <= len(value) <= LONGEST:
        return False
    return value not in RESERVED and all([sign in LETTERS for sign in value])


def up(number, by):
    """number / by, rounded up."""
    return -(-number // by)


def least_power(base, number):
    """The least m from 0 on with base ** m >= number."""
    least = 0
    power = 1
    while power < number:
        power = power * base
        least += 1
    return least

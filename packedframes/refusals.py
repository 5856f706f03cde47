"""The numbers by which calls are refused, and the ranges that several calls ask for."""

OUT_OF_RANGE = -1
BEHIND_END = -3
MISSING = -4
UNLIKE = -5
RING = -7
HIT_TOO_OFTEN = -8
FULL = -9

MOST_OCTETS = 1600


def within(number, least, greatest):
    """Whether a number is in a range."""
    return least <= number <= greatest


def all_within(numbers, least, greatest):
    """Whether all of some numbers are in a range."""
    return all([within(number, least, greatest) for number in numbers])


def all_octets(numbers):
    """Whether a list is one of bytes, and no longer than calls take it."""
    return len(numbers) <= MOST_OCTETS and all_within(numbers, 0, 255)


def is_key(number):
    """Whether a number may be the key of a picture or a stream."""
    return within(number, 1, 99)

"""The numbers by which calls are refused, and the ranges that several calls ask for."""

OUT_OF_RANGE = -1
BEHIND_END = -3
MISSING = -4
UNLIKE = -5
RING = -7
HIT_TOO_OFTEN = -8
FULL = -9

MOST_PICTURES = 6
MOST_STREAMS = 6
MOST_PACKETS = 20


def within(number, least, greatest):
    """Whether a number is in a range."""
    return least <= number <= greatest


def all_within(numbers, least, greatest):
    """Whether all of some numbers are in a range."""
    return all([within(number, least, greatest) for number in numbers])


def is_key(number):
    """Whether a number may be the key of a picture or a stream."""
    return within(number, 1, 99)


def key_refusal(shelf, key):
    """Why there's nothing of this key in a dict of pictures or streams, or 0 if there is."""
    if not is_key(key):
        return OUT_OF_RANGE
    if key not in shelf:
        return MISSING
    return 0

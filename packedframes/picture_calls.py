"""The calls on pictures. Each takes the house and the call's numbers, and answers a list."""

from packedframes.refusals import BEHIND_END, FULL, OUT_OF_RANGE, UNLIKE, all_within, is_key, within
from packedframes.shelves import MOST_PICTURES, is_full, key_refusal, keys_refusal, told_keys
from packedframes.streams import Picture, sizes_by_mode


def picture_refusal(house, key, width, height, greys):
    """Why no picture can be put there, or 0."""
    if not is_key(key) or not within(width, 1, 24) or not within(height, 1, 24):
        return OUT_OF_RANGE
    if len(greys) != width * height or not all_within(greys, 0, 1023):
        return OUT_OF_RANGE
    if is_full(house.pictures, key, MOST_PICTURES):
        return FULL
    return 0


def call_picture(house, numbers):
    """0: a new picture, or one in the place of another."""
    key = numbers[0]
    width = numbers[1]
    height = numbers[2]
    greys = numbers[3:]
    refusal = picture_refusal(house, key, width, height, greys)
    if refusal < 0:
        return [refusal]
    house.pictures[key] = Picture(width, height, greys)
    return [0]


def call_values(house, numbers):
    """1: a picture's sides and values."""
    key = numbers[0]
    refusal = key_refusal(house.pictures, key)
    if refusal < 0:
        return [refusal]
    picture = house.pictures[key]
    return [picture.width, picture.height] + picture.greys


def sizes_refusal(house, key, slices, mode):
    """Why a picture's packets have no sizes by a mode, or 0."""
    if not within(slices, 1, 8) or not within(mode, 0, 4):
        return OUT_OF_RANGE
    refusal = key_refusal(house.pictures, key)
    if refusal < 0:
        return refusal
    if slices > house.pictures[key].height:
        return BEHIND_END
    return 0


def call_sizes(house, numbers):
    """14: how many bytes a picture's packets would have by a mode."""
    slices = numbers[1]
    mode = numbers[2]
    refusal = sizes_refusal(house, numbers[0], slices, mode)
    if refusal < 0:
        return [refusal]
    return sizes_by_mode(house.pictures[numbers[0]], slices, mode)


def call_drop(house, numbers):
    """18: take a picture away."""
    refusal = key_refusal(house.pictures, numbers[0])
    if refusal < 0:
        return [refusal]
    house.pictures.pop(numbers[0])
    return [0]


def first_unlike(one, other):
    """The place of the first value that two pictures of the same sides have unlike, or -1."""
    for n, grey in enumerate(one.greys):
        if grey != other.greys[n]:
            return n
    return -1


def call_same(house, numbers):
    """19: whether two pictures have the same values, or else where they begin to be unlike."""
    refusal = keys_refusal(house.pictures, numbers)
    if refusal < 0:
        return [refusal]
    one = house.pictures[numbers[0]]
    other = house.pictures[numbers[1]]
    if one.width != other.width or one.height != other.height:
        return [UNLIKE]
    n = first_unlike(one, other)
    if n < 0:
        return [1]
    return [0, n % one.width, n // one.width]


def call_pictures(house, numbers):
    """23: the keys of all pictures."""
    return told_keys(house.pictures)


CALLS = {
    0: call_picture, 1: call_values, 14: call_sizes, 18: call_drop, 19: call_same, 23: call_pictures,
}


def is_picture_call(number):
    """Whether the call of this number is one on pictures."""
    return number in CALLS


def answer_picture_call(house, number, numbers):
    """What the call of this number answers."""
    return CALLS[number](house, numbers)

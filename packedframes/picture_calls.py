"""The calls on pictures. Each takes the house and the call's numbers, and answers a list."""

from packedframes.refusals import FULL, MOST_PICTURES, OUT_OF_RANGE
from packedframes.refusals import all_within, is_key, key_refusal, within
from packedframes.streams import Picture


def picture_refusal(house, key, width, height, greys):
    """Why no picture can be put there, or 0."""
    if not is_key(key) or not within(width, 1, 24) or not within(height, 1, 24):
        return OUT_OF_RANGE
    if len(greys) != width * height or not all_within(greys, 0, 1023):
        return OUT_OF_RANGE
    if key not in house.pictures and len(house.pictures) >= MOST_PICTURES:
        return FULL
    return 0


def call_picture(house, numbers):
    """0: a new picture, or one in the place of another."""
    key = numbers[0]
    width = numbers[1]
    height = numbers[2]
    greys = numbers[3:]
    refusal = picture_refusal(house, key, width, height, greys)
    if refusal < 0:
        return [refusal]
    house.pictures[key] = Picture(width, height, greys)
    return [0]


def call_values(house, numbers):
    """1: a picture's sides and values."""
    key = numbers[0]
    refusal = key_refusal(house.pictures, key)
    if refusal < 0:
        return [refusal]
    picture = house.pictures[key]
    return [picture.width, picture.height] + picture.greys


CALLS = {0: call_picture, 1: call_values}


def is_picture_call(number):
    """Whether the call of this number is one on pictures."""
    return number in CALLS


def answer_picture_call(house, number, numbers):
    """What the call of this number answers."""
    return CALLS[number](house, numbers)

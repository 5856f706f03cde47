"""Calls written by name for the tests, and the answers to them call by call."""

import random

from packedframes.house import answers

FAR = 10 ** 18


def picture(key, w, h, values):
    return [0, key, w, h, len(values)] + list(values)


def values(key):
    return [1, key]


def pack(key, slices=1, reference=0):
    return [2, key, slices, reference]


def packet(key, i):
    return [3, key, i]


def packets(key):
    return [4, key]


def flip(key, i, byte, bit):
    return [5, key, i, byte, bit]


def burst(key, i, bit, pattern):
    return [6, key, i, bit, pattern]


def lose(key, i):
    return [7, key, i]


def twice(key, i):
    return [8, key, i]


def turn(key):
    return [9, key]


def give(key, octets):
    return [10, key, len(octets)] + list(octets)


def slices(key):
    return [11, key]


def unpack(key):
    return [12, key]


def split(told, count):
    """The answers of so many calls, apart."""
    apart = []
    at = 0
    while at < len(told):
        apart.append(told[at + 1:at + 1 + told[at]])
        at += 1 + told[at]
    if at != len(told) or len(apart) != count:
        raise AssertionError(f"{len(apart)} answers to {count} calls, ending at {at} of {len(told)}")
    return apart


def run(*calls):
    """The answers to calls on a new house, a list each."""
    return split(answers([number for call in calls for number in call]), len(calls))


def last(*calls):
    """The answer to the last of some calls."""
    return run(*calls)[-1]


def flat(w, h, value=300):
    return [value] * (w * h)


def ramp(w, h, across=7, down=3, start=0):
    return [(start + across * x + down * y) % 1024 for y in range(h) for x in range(w)]


def noise(w, h, seed=0, least=0, greatest=1023):
    source = random.Random(seed)
    return [source.randint(least, greatest) for place in range(w * h)]


def edges(w, h, low=10, high=1000):
    return [high if (x // 3 + y // 2) % 2 else low for y in range(h) for x in range(w)]


def near(greys, seed=0, by=2):
    """Values close to given ones, so that packing by difference pays."""
    source = random.Random(seed)
    return [max(0, min(1023, grey + source.randint(-by, by))) for grey in greys]


def slow_check(octets):
    """The check bit by bit, as the document tells it."""
    r = 4294967295
    for octet in octets:
        for bit in f"{octet:08b}":
            unlike = (r >= 2147483648) != (bit == "1")
            r = 2 * r % 4294967296
            if unlike:
                r ^= 517762881
    return r


def seal(octets):
    r = slow_check(octets)
    return list(octets) + [r >> 24, (r >> 16) & 255, (r >> 8) & 255, r & 255]

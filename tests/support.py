"""Calls written by name for the tests, and the answers to them call by call."""

import random

from packedframes.house import answers

FAR = 10 ** 18


def picture(key, w, h, values):
    return [0, key, w, h, len(values)] + list(values)


def values(key):
    return [1, key]


def pack(key, slices=1, reference=0):
    return [2, key, slices, reference]


def packet(key, i):
    return [3, key, i]


def packets(key):
    return [4, key]


def flip(key, i, byte, bit):
    return [5, key, i, byte, bit]


def burst(key, i, bit, pattern):
    return [6, key, i, bit, pattern]


def lose(key, i):
    return [7, key, i]


def twice(key, i):
    return [8, key, i]


def turn(key):
    return [9, key]


def give(key, octets):
    return [10, key, len(octets)] + list(octets)


def slices(key):
    return [11, key]


def unpack(key):
    return [12, key]


def errors(key):
    return [13, key]


def sizes(key, slices, mode):
    return [14, key, slices, mode]


def copy(key, new):
    return [15, key, new]


def merge(a, b):
    return [16, a, b]


def keep(key, picture):
    return [17, key, picture]


def drop(key):
    return [18, key]


def same(a, b):
    return [19, a, b]


def check(octets):
    return [20, len(octets)] + list(octets)


def code(k, u):
    return [21, k, u]


def predict(mode, a, b, c):
    return [22, mode, a, b, c]


def pictures():
    return [23]


def streams():
    return [24]


def joined(calls):
    """Calls as they are handed in, one behind another."""
    return [number for call in calls for number in call]


def split(told, count):
    """The answers of so many calls, apart."""
    apart = []
    at = 0
    while at < len(told):
        apart.append(told[at + 1:at + 1 + told[at]])
        at += 1 + told[at]
    if at != len(told) or len(apart) != count:
        raise AssertionError(f"{len(apart)} answers to {count} calls, ending at {at} of {len(told)}")
    return apart


def run(*calls):
    """The answers to calls on a new house, a list each."""
    numbers = joined(calls)
    if len(calls) > 400 or len(numbers) > 16000:
        raise AssertionError(f"{len(calls)} calls of {len(numbers)} numbers are more than may be handed in")
    return split(answers(numbers), len(calls))


def last(*calls):
    """The answer to the last of some calls."""
    return run(*calls)[-1]


def octets_of(calls, key):
    """The bytes of each packet of a stream after some calls."""
    count = last(*calls, packets(key))[0]
    told = run(*calls, *[packet(key, i) for i in range(count)])
    return [answer[1:] for answer in told[len(calls):]]


def hits_of(calls, key):
    """For each packet of a stream what a burst and then four flips answer: that tells how often it was hit."""
    count = last(*calls, packets(key))[0]
    tries = []
    for i in range(count):
        burst_told = last(*calls, burst(key, i, 0, 1))
        tries.append([burst_told] + run(*calls, *[flip(key, i, 0, 0)] * 4)[len(calls):])
    return tries


def whole(*calls):
    """All that can be asked of the house that some calls leave, and which stamp would be next."""
    picture_keys = last(*calls, pictures())
    stream_keys = last(*calls, streams())
    looks = [values(key) for key in picture_keys[1:]]
    looks += [look(key) for key in stream_keys[1:] for look in (packets, slices, unpack, errors)]
    told = run(*calls, *looks)[len(calls):]
    octets = [octets_of(calls, key) for key in stream_keys[1:]]
    hits = [hits_of(calls, key) for key in stream_keys[1:]]
    free = [key for key in picture_keys[1:] if key in stream_keys[1:]][:1]
    stamps = [last(*calls, pack(key), packet(key, 0))[1:3] for key in free]
    return [picture_keys, stream_keys, told, octets, hits, stamps]


def flat(w, h, value=300):
    return [value] * (w * h)


def ramp(w, h, across=7, down=3, start=0):
    return [(start + across * x + down * y) % 1024 for y in range(h) for x in range(w)]


def noise(w, h, seed=0, least=0, greatest=1023):
    source = random.Random(seed)
    return [source.randint(least, greatest) for place in range(w * h)]


def edges(w, h, low=10, high=1000):
    return [high if (x // 3 + y // 2) % 2 else low for y in range(h) for x in range(w)]


def near(greys, seed=0, by=2):
    """Values close to given ones, so that packing by difference pays."""
    source = random.Random(seed)
    return [max(0, min(1023, grey + source.randint(-by, by))) for grey in greys]


def slow_check(octets):
    """The check bit by bit, as the document tells it."""
    r = 4294967295
    for octet in octets:
        for bit in f"{octet:08b}":
            unlike = (r >= 2147483648) != (bit == "1")
            r = 2 * r % 4294967296
            if unlike:
                r ^= 517762881
    return r


def seal(octets):
    r = slow_check(octets)
    return list(octets) + [r >> 24, (r >> 16) & 255, (r >> 8) & 255, r & 255]

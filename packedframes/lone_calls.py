"""The calls that stand by themselves: they need no house. Each takes its numbers, and answers a list."""

from packedframes.bits import check
from packedframes.codes import GREATEST_K, code
from packedframes.prediction import GREATEST, context_of, predict
from packedframes.refusals import OUT_OF_RANGE, all_octets, all_within, within


def call_check(numbers):
    """20: the check of some bytes."""
    if not all_octets(numbers):
        return [OUT_OF_RANGE]
    return [check(numbers)]


def call_code(numbers):
    """21: the bits that stand for a number by k."""
    k = numbers[0]
    number = numbers[1]
    if not within(k, 0, GREATEST_K) or not within(number, 0, GREATEST):
        return [OUT_OF_RANGE]
    bits = code(number, k)
    return [len(bits)] + bits


def call_predict(numbers):
    """22: what a value with three neighbours is predicted as, and its context."""
    mode = numbers[0]
    a = numbers[1]
    b = numbers[2]
    c = numbers[3]
    if not within(mode, 0, 4) or not all_within([a, b, c], 0, GREATEST):
        return [OUT_OF_RANGE]
    return [predict(mode, a, b, c), context_of(a, b, c)]


CALLS = {20: call_check, 21: call_code, 22: call_predict}


def is_lone_call(number):
    """Whether the call of this number stands by itself."""
    return number in CALLS


def answer_lone_call(number, numbers):
    """What the call of this number answers."""
    return CALLS[number](numbers)

"""What a value is predicted as, by its neighbours in the slice or by a reference.

A slice is a list of values, row by row; n is a value's place in it. Only values before
place n are looked at, so the same functions serve a slice that is still being decoded.
"""

MIDDLE = 512
GREATEST = 1023
CONSTANT_MODE = 0
REFERENCE_MODE = 5


def predict(mode, a, b, c):
    """What a value is predicted as by a mode from 0 to 4: a is left, b above, c the corner."""
    if mode == CONSTANT_MODE:
        return MIDDLE
    if mode == 1:
        return a
    if mode == 2:
        return b
    if mode == 3:
        return max(0, min(GREATEST, a + b - c))
    return predict_edge(a, b, c)


def predict_edge(a, b, c):
    """What a value is predicted as by mode 4."""
    if c >= max(a, b):
        return min(a, b)
    if c <= min(a, b):
        return max(a, b)
    return a + b - c


def predicted(greys, n, width, mode, reference):
    """What the value at place n is predicted as; reference has the reference's slice for mode 5."""
    if mode == CONSTANT_MODE:
        return MIDDLE
    if mode == REFERENCE_MODE:
        return reference[n]
    has_left = n % width > 0
    has_above = n >= width
    if has_left and has_above:
        return predict(mode, greys[n - 1], greys[n - width], greys[n - width - 1])
    if has_left:
        return greys[n - 1]
    if has_above:
        return greys[n - width]
    return MIDDLE


def context_of(a, b, c):
    """The context of a value that has all three neighbours."""
    distance = abs(a - c) + abs(c - b)
    if distance <= 2:
        return 0
    if distance <= 15:
        return 1
    return 2


def context_at(greys, n, width):
    """The context of the value at place n."""
    if n % width == 0 or n < width:
        return 0
    return context_of(greys[n - 1], greys[n - width], greys[n - width - 1])


def number_of(grey, expected):
    """The number, 0 to 1023, that stands for a value by its difference from the predicted one."""
    difference = (grey - expected + 512) % 1024 - 512
    if difference >= 0:
        return 2 * difference
    return -2 * difference - 1


def value_of(number, expected):
    """The value of which this is the number: the way back from number_of."""
    if number % 2 == 0:
        return (expected + number // 2) % 1024
    return (expected - (number + 1) // 2) % 1024

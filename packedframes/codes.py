"""The codes of numbers, and whole slices coded as bytes and decoded from them."""

from packedframes.bits import bits_of_number, bits_of_octets, number_at, octets_of_bits
from packedframes.prediction import GREATEST, context_at, number_of, predicted, value_of

# So many ones tell that the number follows as it is, so many bits long.
ESCAPE_ONES = 12
ESCAPE_BITS = 10
GREATEST_K = 10


class Contexts:
    """What the numbers met so far tell of those to come, for each of the three contexts."""

    def __init__(self):
        self.sums = [4, 4, 4]
        self.counts = [1, 1, 1]

    def find_k(self, context):
        """The k by which the next number of a context is coded."""
        k = 0
        while k < GREATEST_K and self.sums[context] > self.counts[context] << k:
            k += 1
        return k

    def learn(self, context, number):
        """Count a number in; halving now and then lets old numbers weigh less."""
        self.sums[context] += number
        self.counts[context] += 1
        if self.counts[context] == 32:
            self.sums[context] //= 2
            self.counts[context] //= 2


def code(number, k):
    """The bits that stand for a number by k."""
    ones = number >> k
    if ones < ESCAPE_ONES:
        return [1] * ones + [0] + bits_of_number(number, k)
    return [1] * ESCAPE_ONES + bits_of_number(number, ESCAPE_BITS)


def code_length(number, k):
    """How many bits stand for a number by k."""
    ones = number >> k
    if ones < ESCAPE_ONES:
        return ones + 1 + k
    return ESCAPE_ONES + ESCAPE_BITS


def count_ones(bits, at):
    """How many ones there are from a place on, but not more than make an escape."""
    ones = 0
    while ones < ESCAPE_ONES and at + ones < len(bits) and bits[at + ones] == 1:
        ones += 1
    return ones


def read_code(bits, at, k):
    """The number whose code by k begins at a place, or -1 if none does."""
    ones = count_ones(bits, at)
    if ones == ESCAPE_ONES:
        number = number_at(bits, at + ones, ESCAPE_BITS)
        # A number that has a shorter code may not be escaped; -1 is left as it is.
        return number if number >> k >= ESCAPE_ONES else -1
    low = number_at(bits, at + ones + 1, k)
    if low < 0:
        return -1
    number = (ones << k) + low
    return number if number <= GREATEST else -1


def coded(greys, width, mode, reference):
    """A slice's values coded by a mode, as bytes."""
    contexts = Contexts()
    bits = []
    for n, grey in enumerate(greys):
        context = context_at(greys, n, width)
        number = number_of(grey, predicted(greys, n, width, mode, reference))
        bits.extend(code(number, contexts.find_k(context)))
        contexts.learn(context, number)
    return octets_of_bits(bits)


def decoded(octets, size, width, mode, reference):
    """Bytes decoded as so many values by a mode; an empty list if they can't be."""
    bits = bits_of_octets(octets)
    contexts = Contexts()
    greys = []
    at = 0
    for n in range(size):
        context = context_at(greys, n, width)
        k = contexts.find_k(context)
        number = read_code(bits, at, k)
        if number < 0:
            return []
        at += code_length(number, k)
        contexts.learn(context, number)
        greys.append(value_of(number, predicted(greys, n, width, mode, reference)))
    rest = bits[at:]
    if len(rest) >= 8 or 1 in rest:
        return []
    return greys

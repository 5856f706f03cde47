"""Binary digits, bytes as lists of whole numbers, and the check that seals them."""

CHECK_START = 4294967295
CHECK_LIMIT = 4294967296
# What four steps of the check make of each four leading digits. Packets are checked anew
# whenever they are read, so the check goes four bits at a time.
CHECK_STEPS = (
    0, 517762881, 1035525762, 593801667, 2071051524, 1705890373, 1187603334, 1477774535,
    4142103048, 3896448329, 3411780746, 3582446539, 2375206668, 2471405645, 2955549070, 2935387855,
)


def check(octets):
    """The check of some bytes."""
    r = CHECK_START
    for octet in octets:
        r = check_step(r, octet >> 4)
        r = check_step(r, octet & 15)
    return r


def check_step(r, four):
    """The check's number after four more bits, given as a number from 0 to 15."""
    return (r * 16 % CHECK_LIMIT) ^ CHECK_STEPS[(r >> 28) ^ four]


def octets_of_number(number, size):
    """A number as so many bytes, the highest first."""
    return [(number >> (8 * (size - 1 - place))) & 255 for place in range(size)]


def sealed(octets):
    """Some bytes with their check behind them."""
    return octets + octets_of_number(check(octets), 4)


def is_sealed(octets):
    """Whether the last four bytes are the check of those before."""
    end = len(octets) - 4
    return end >= 0 and octets[end:] == octets_of_number(check(octets[:end]), 4)


def bits_of_number(number, size):
    """The so many lowest binary digits of a number, the highest first."""
    return [(number >> (size - 1 - place)) & 1 for place in range(size)]


def number_at(bits, at, size):
    """The number that so many bits from a place on make, or -1 if they reach behind the end."""
    if at + size > len(bits):
        return -1
    number = 0
    for place in range(at, at + size):
        number = 2 * number + bits[place]
    return number


def bits_of_octets(octets):
    """The bits of some bytes, in order."""
    bits = []
    for octet in octets:
        bits.extend(bits_of_number(octet, 8))
    return bits


def octets_of_bits(bits):
    """Bits as bytes, zeros filled in behind the end."""
    filled = bits + [0] * (-len(bits) % 8)
    return [number_at(filled, at, 8) for at in range(0, len(filled), 8)]

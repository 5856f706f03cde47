"""Pictures, the streams they are packed into, and packets."""

from packedframes.bits import octets_of_number, sealed
from packedframes.codes import coded
from packedframes.prediction import CONSTANT_MODE, REFERENCE_MODE

# What a packet has around the coded values.
HEADER_SIZE = 10
CHECK_SIZE = 4

MOST_PACKETS = 20


class Picture:
    """A grey picture: its sides and its values, row by row."""

    def __init__(self, width, height, greys):
        self.width = width
        self.height = height
        self.greys = greys


class Packet:
    """A packet's bytes as they are now, and how often they were hit."""

    def __init__(self, octets, flips, is_burst):
        self.octets = octets
        self.flips = flips
        self.is_burst = is_burst


class Stream:
    """A picture packed: what was packed, and the packets as they are now."""

    def __init__(self, stamp, picture, slices, reference, reference_stamp):
        self.stamp = stamp
        self.width = picture.width
        self.height = picture.height
        self.slices = slices
        self.reference = reference
        self.reference_stamp = reference_stamp
        self.packed = list(picture.greys)
        self.packets = []


def first_row(stream, i):
    """The row with which slice i begins; that of the slice behind the last is the height."""
    return i * stream.height // stream.slices


def slice_size(stream, i):
    """How many values slice i has."""
    return (first_row(stream, i + 1) - first_row(stream, i)) * stream.width


def packed_slice(stream, i):
    """The values of slice i as they were packed."""
    start = first_row(stream, i) * stream.width
    return stream.packed[start:start + slice_size(stream, i)]


def header(stream, i, mode):
    """The first ten bytes of a packet of slice i by a mode."""
    sides = [stream.width, stream.height]
    told = octets_of_number(stream.stamp, 2) + [i, stream.slices, mode] + sides
    return told + [stream.reference] + octets_of_number(stream.reference_stamp, 2)


def make_packet(stream, i, reference_slice):
    """The packet of slice i by the mode that takes fewest bytes; no reference has an empty slice."""
    greys = packed_slice(stream, i)
    best_mode = CONSTANT_MODE
    best = coded(greys, stream.width, best_mode, reference_slice)
    last_mode = REFERENCE_MODE if len(reference_slice) > 0 else REFERENCE_MODE - 1
    for mode in range(CONSTANT_MODE + 1, last_mode + 1):
        octets = coded(greys, stream.width, mode, reference_slice)
        if len(octets) < len(best):
            best_mode = mode
            best = octets
    return Packet(sealed(header(stream, i, best_mode) + best), 0, False)


def make_packets(stream, reference_stream):
    """Fill a new stream with a packet for each slice; its reference's stream may be None."""
    for i in range(stream.slices):
        reference_slice = [] if reference_stream is None else packed_slice(reference_stream, i)
        stream.packets.append(make_packet(stream, i, reference_slice))


def sizes_by_mode(picture, slices, mode):
    """How many bytes the packet of each slice would have by a mode from 0 to 4."""
    # The stamp doesn't change a packet's size.
    stream = Stream(0, picture, slices, 0, 0)
    coded_slices = [coded(packed_slice(stream, i), stream.width, mode, []) for i in range(slices)]
    return [HEADER_SIZE + len(octets) + CHECK_SIZE for octets in coded_slices]


def copy_packet(packet):
    """The same packet once more, with how often it was hit."""
    return Packet(list(packet.octets), packet.flips, packet.is_burst)


def copy_stream(stream):
    """The same stream once more, with packets of its own."""
    picture = Picture(stream.width, stream.height, stream.packed)
    twin = Stream(stream.stamp, picture, stream.slices, stream.reference, stream.reference_stamp)
    twin.packets = [copy_packet(packet) for packet in stream.packets]
    return twin

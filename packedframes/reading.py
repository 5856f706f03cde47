"""Slices read from the packets that are there, and whole streams unpacked."""

from packedframes.bits import is_sealed
from packedframes.codes import decoded
from packedframes.prediction import MIDDLE, REFERENCE_MODE
from packedframes.streams import CHECK_SIZE, HEADER_SIZE, first_row, header, slice_size

NOT_THERE = 0
WAITS = 1
READ = 2

MODE_PLACE = 4


class Reading:
    """What came of reading a slice: its state, and its values if it's read."""

    def __init__(self, state, greys):
        self.state = state
        self.greys = greys


def fitting_mode(stream, i, octets):
    """The mode by which a packet fits slice i of a stream, or -1 if it doesn't fit."""
    if len(octets) < HEADER_SIZE + CHECK_SIZE:
        return -1
    mode = octets[MODE_PLACE]
    if mode > REFERENCE_MODE or (mode == REFERENCE_MODE and stream.reference == 0):
        return -1
    # The check takes longest, so it comes last.
    if octets[:HEADER_SIZE] != header(stream, i, mode) or not is_sealed(octets):
        return -1
    return mode


def read_packets(stream, i, reference_reading):
    """Read slice i from the stream's own packets, its reference's slice being read already."""
    state = NOT_THERE
    for packet in stream.packets:
        mode = fitting_mode(stream, i, packet.octets)
        if mode == REFERENCE_MODE and reference_reading.state != READ:
            state = WAITS
        elif mode >= 0:
            octets = packet.octets[HEADER_SIZE:len(packet.octets) - CHECK_SIZE]
            greys = decoded(octets, slice_size(stream, i), stream.width, mode, reference_reading.greys)
            if len(greys) > 0:
                return Reading(READ, greys)
    return Reading(state, [])


def reference_chain(streams, stream):
    """The stream, its reference, that one's, and so on, as far as they're there with the stamp told."""
    chain = []
    link = stream
    while link is not None:
        chain.append(link)
        following = streams.get(link.reference)
        if following is not None and following.stamp != link.reference_stamp:
            following = None
        link = following
    return chain


def read_slice(streams, stream, i):
    """Read slice i of a stream."""
    reading = Reading(NOT_THERE, [])
    # From the far end on, so that each slice of the chain is read just once.
    for link in reversed(reference_chain(streams, stream)):
        reading = read_packets(link, i, reading)
    return reading


def slice_states(streams, stream):
    """For each slice whether it's read, waits, or isn't there."""
    return [read_slice(streams, stream, i).state for i in range(stream.slices)]


def unread_slices(streams, stream):
    """The numbers of the slices that aren't read."""
    return [i for i, state in enumerate(slice_states(streams, stream)) if state != READ]


def fits_one_of(stream, numbers, octets):
    """Whether a packet fits a slice of a stream that has one of these numbers."""
    return any([fitting_mode(stream, i, octets) >= 0 for i in numbers])


def read_rows(streams, stream):
    """The rows of a stream as they are read; a row that isn't is empty."""
    rows = []
    for i in range(stream.slices):
        greys = read_slice(streams, stream, i).greys
        for y in range(first_row(stream, i + 1) - first_row(stream, i)):
            rows.append(greys[y * stream.width:(y + 1) * stream.width])
    return rows


def nearest_row(rows, y, step):
    """The nearest row that's read above row y (step -1) or below it (step 1), or an empty one."""
    place = y + step
    while 0 <= place < len(rows):
        if len(rows[place]) > 0:
            return rows[place]
        place += step
    return []


def made_up_row(rows, y, width):
    """What stands for row y, which isn't read."""
    above = nearest_row(rows, y, -1)
    below = nearest_row(rows, y, 1)
    if len(above) > 0 and len(below) > 0:
        return [(one + other) // 2 for one, other in zip(above, below)]
    if len(above) > 0:
        return above
    if len(below) > 0:
        return below
    return [MIDDLE] * width


def unpacked(streams, stream):
    """The values of a stream unpacked, row by row."""
    rows = read_rows(streams, stream)
    greys = []
    for y, row in enumerate(rows):
        greys.extend(row if len(row) > 0 else made_up_row(rows, y, stream.width))
    return greys

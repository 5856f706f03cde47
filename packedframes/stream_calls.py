"""The calls on whole streams. Each takes the house and the call's numbers, and answers a list."""

from packedframes.reading import slice_states, unpacked
from packedframes.refusals import BEHIND_END, FULL, MISSING, MOST_STREAMS, OUT_OF_RANGE, RING, UNLIKE
from packedframes.refusals import key_refusal, within
from packedframes.streams import Stream, make_packets


def leads_to(house, start, key):
    """Whether a stream's key, its reference, that one's reference, and so on, comes to a key."""
    link = start
    while link != key and link in house.streams:
        link = house.streams[link].reference
    return link == key


def reference_refusal(house, key, picture, slices, reference):
    """Why a picture can't be packed by its difference from a stream, or 0."""
    if reference not in house.streams:
        return MISSING
    stream = house.streams[reference]
    if stream.width != picture.width or stream.height != picture.height or stream.slices != slices:
        return UNLIKE
    if leads_to(house, reference, key):
        return RING
    return 0


def pack_refusal(house, key, slices, reference):
    """Why a picture can't be packed, or 0."""
    if not within(slices, 1, 8) or not within(reference, 0, 99):
        return OUT_OF_RANGE
    refusal = key_refusal(house.pictures, key)
    if refusal < 0:
        return refusal
    picture = house.pictures[key]
    if slices > picture.height:
        return BEHIND_END
    if key not in house.streams and len(house.streams) >= MOST_STREAMS:
        return FULL
    if reference == 0:
        return 0
    return reference_refusal(house, key, picture, slices, reference)


def packet_sizes(stream):
    """How many bytes each packet of a stream has."""
    return [len(packet.octets) for packet in stream.packets]


def call_pack(house, numbers):
    """2: pack a picture into the stream of its key."""
    key = numbers[0]
    slices = numbers[1]
    reference = numbers[2]
    refusal = pack_refusal(house, key, slices, reference)
    if refusal < 0:
        return [refusal]
    reference_stream = house.streams.get(reference)
    reference_stamp = 0 if reference_stream is None else reference_stream.stamp
    stream = Stream(house.stamp, house.pictures[key], slices, reference, reference_stamp)
    make_packets(stream, reference_stream)
    house.stamp += 1
    house.streams[key] = stream
    return packet_sizes(stream)


def call_packets(house, numbers):
    """4: how many packets a stream has, and their sizes."""
    refusal = key_refusal(house.streams, numbers[0])
    if refusal < 0:
        return [refusal]
    stream = house.streams[numbers[0]]
    return [len(stream.packets)] + packet_sizes(stream)


def call_turn(house, numbers):
    """9: put a stream's packets into the opposite order."""
    refusal = key_refusal(house.streams, numbers[0])
    if refusal < 0:
        return [refusal]
    stream = house.streams[numbers[0]]
    stream.packets = list(reversed(stream.packets))
    return [len(stream.packets)]


def call_slices(house, numbers):
    """11: which slices of a stream are read."""
    refusal = key_refusal(house.streams, numbers[0])
    if refusal < 0:
        return [refusal]
    stream = house.streams[numbers[0]]
    return [stream.slices] + slice_states(house.streams, stream)


def call_unpack(house, numbers):
    """12: a stream unpacked."""
    refusal = key_refusal(house.streams, numbers[0])
    if refusal < 0:
        return [refusal]
    stream = house.streams[numbers[0]]
    return [stream.width, stream.height] + unpacked(house.streams, stream)


CALLS = {2: call_pack, 4: call_packets, 9: call_turn, 11: call_slices, 12: call_unpack}


def is_stream_call(number):
    """Whether the call of this number is one on whole streams."""
    return number in CALLS


def answer_stream_call(house, number, numbers):
    """What the call of this number answers."""
    return CALLS[number](house, numbers)

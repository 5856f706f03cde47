"""The calls on whole streams. Each takes the house and the call's numbers, and answers a list."""

from packedframes.reading import fits_one_of, slice_states, unpacked, unread_slices
from packedframes.refusals import BEHIND_END, FULL, MISSING, OUT_OF_RANGE, RING, UNLIKE, is_key, within
from packedframes.shelves import MOST_PICTURES, MOST_STREAMS, is_full, key_refusal, keys_refusal, told_keys
from packedframes.streams import MOST_PACKETS, Picture, Stream, copy_packet, copy_stream, make_packets


def leads_to(house, start, key):
    """Whether a stream's key, its reference, that one's reference, and so on, comes to a key."""
    link = start
    while link != key and link in house.streams:
        link = house.streams[link].reference
    return link == key


def reference_refusal(house, key, picture, slices, reference):
    """Why a picture can't be packed by its difference from a stream, or 0."""
    if reference not in house.streams:
        return MISSING
    stream = house.streams[reference]
    if stream.width != picture.width or stream.height != picture.height or stream.slices != slices:
        return UNLIKE
    if leads_to(house, reference, key):
        return RING
    return 0


def pack_refusal(house, key, slices, reference):
    """Why a picture can't be packed, or 0."""
    if not within(slices, 1, 8) or not within(reference, 0, 99):
        return OUT_OF_RANGE
    refusal = key_refusal(house.pictures, key)
    if refusal < 0:
        return refusal
    picture = house.pictures[key]
    if slices > picture.height:
        return BEHIND_END
    if is_full(house.streams, key, MOST_STREAMS):
        return FULL
    if reference == 0:
        return 0
    return reference_refusal(house, key, picture, slices, reference)


def packet_sizes(stream):
    """How many bytes each packet of a stream has."""
    return [len(packet.octets) for packet in stream.packets]


def call_pack(house, numbers):
    """2: pack a picture into the stream of its key."""
    key = numbers[0]
    slices = numbers[1]
    reference = numbers[2]
    refusal = pack_refusal(house, key, slices, reference)
    if refusal < 0:
        return [refusal]
    reference_stream = house.streams.get(reference)
    reference_stamp = 0 if reference_stream is None else reference_stream.stamp
    stream = Stream(house.stamp, house.pictures[key], slices, reference, reference_stamp)
    make_packets(stream, reference_stream)
    house.stamp += 1
    house.streams[key] = stream
    return packet_sizes(stream)


def call_packets(house, numbers):
    """4: how many packets a stream has, and their sizes."""
    refusal = key_refusal(house.streams, numbers[0])
    if refusal < 0:
        return [refusal]
    stream = house.streams[numbers[0]]
    return [len(stream.packets)] + packet_sizes(stream)


def call_turn(house, numbers):
    """9: put a stream's packets into the opposite order."""
    refusal = key_refusal(house.streams, numbers[0])
    if refusal < 0:
        return [refusal]
    stream = house.streams[numbers[0]]
    stream.packets = list(reversed(stream.packets))
    return [len(stream.packets)]


def call_slices(house, numbers):
    """11: which slices of a stream are read."""
    refusal = key_refusal(house.streams, numbers[0])
    if refusal < 0:
        return [refusal]
    stream = house.streams[numbers[0]]
    return [stream.slices] + slice_states(house.streams, stream)


def call_unpack(house, numbers):
    """12: a stream unpacked."""
    refusal = key_refusal(house.streams, numbers[0])
    if refusal < 0:
        return [refusal]
    stream = house.streams[numbers[0]]
    return [stream.width, stream.height] + unpacked(house.streams, stream)


def call_errors(house, numbers):
    """13: how many values packed a stream unpacked has otherwise, and by how much at most."""
    refusal = key_refusal(house.streams, numbers[0])
    if refusal < 0:
        return [refusal]
    stream = house.streams[numbers[0]]
    greys = unpacked(house.streams, stream)
    differences = [abs(grey - packed) for grey, packed in zip(greys, stream.packed)]
    return [len(differences) - differences.count(0), max(differences)]


def copy_refusal(house, key, new):
    """Why a stream can't be copied onto a key, or 0."""
    if not is_key(new):
        return OUT_OF_RANGE
    refusal = key_refusal(house.streams, key)
    if refusal < 0:
        return refusal
    if is_full(house.streams, new, MOST_STREAMS):
        return FULL
    if leads_to(house, house.streams[key].reference, new):
        return RING
    return 0


def call_copy(house, numbers):
    """15: put a stream under another key too."""
    refusal = copy_refusal(house, numbers[0], numbers[1])
    if refusal < 0:
        return [refusal]
    house.streams[numbers[1]] = copy_stream(house.streams[numbers[0]])
    return [0]


def call_merge(house, numbers):
    """16: put those packets of another stream behind a stream's own that its unread slices can use."""
    refusal = keys_refusal(house.streams, numbers)
    if refusal < 0:
        return [refusal]
    stream = house.streams[numbers[0]]
    other = house.streams[numbers[1]]
    unread = unread_slices(house.streams, stream)
    found = [copy_packet(packet) for packet in other.packets if fits_one_of(stream, unread, packet.octets)]
    if len(stream.packets) + len(found) > MOST_PACKETS:
        return [FULL]
    stream.packets.extend(found)
    return [len(stream.packets)]


def keep_refusal(house, key, picture_key):
    """Why a stream unpacked can't be kept as a picture, or 0."""
    if not is_key(picture_key):
        return OUT_OF_RANGE
    refusal = key_refusal(house.streams, key)
    if refusal < 0:
        return refusal
    if is_full(house.pictures, picture_key, MOST_PICTURES):
        return FULL
    return 0


def call_keep(house, numbers):
    """17: keep a stream unpacked as a picture."""
    refusal = keep_refusal(house, numbers[0], numbers[1])
    if refusal < 0:
        return [refusal]
    stream = house.streams[numbers[0]]
    house.pictures[numbers[1]] = Picture(stream.width, stream.height, unpacked(house.streams, stream))
    return [0]


def call_streams(house, numbers):
    """24: the keys of all streams."""
    return told_keys(house.streams)


CALLS = {
    2: call_pack, 4: call_packets, 9: call_turn, 11: call_slices, 12: call_unpack, 13: call_errors,
    15: call_copy, 16: call_merge, 17: call_keep, 24: call_streams,
}


def is_stream_call(number):
    """Whether the call of this number is one on whole streams."""
    return number in CALLS


def answer_stream_call(house, number, numbers):
    """What the call of this number answers."""
    return CALLS[number](house, numbers)

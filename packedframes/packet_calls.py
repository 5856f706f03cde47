"""The calls on single packets. Each takes the house and the call's numbers, and answers a list."""

from packedframes.refusals import BEHIND_END, FULL, HIT_TOO_OFTEN, MISSING, OUT_OF_RANGE
from packedframes.refusals import all_octets, is_key, within
from packedframes.shelves import key_refusal
from packedframes.streams import MOST_PACKETS, Packet, copy_packet

MOST_FLIPS = 3


def packet_refusal(house, key, i):
    """Why there's no packet at place i of a stream, or 0 if there is."""
    if not is_key(key) or not within(i, 0, 99):
        return OUT_OF_RANGE
    if key not in house.streams or i >= len(house.streams[key].packets):
        return MISSING
    return 0


def call_packet(house, numbers):
    """3: a packet's bytes."""
    refusal = packet_refusal(house, numbers[0], numbers[1])
    if refusal < 0:
        return [refusal]
    octets = house.streams[numbers[0]].packets[numbers[1]].octets
    return [len(octets)] + octets


def turn_bit(packet, place):
    """Turn one bit of a packet, counted from the first byte's highest one."""
    packet.octets[place // 8] ^= 128 >> (place % 8)


def flip_refusal(house, key, i, place, bit):
    """Why a bit can't be flipped, or 0."""
    if not within(place, 0, 9999) or not within(bit, 0, 7):
        return OUT_OF_RANGE
    refusal = packet_refusal(house, key, i)
    if refusal < 0:
        return refusal
    packet = house.streams[key].packets[i]
    if place >= len(packet.octets):
        return BEHIND_END
    if packet.flips >= MOST_FLIPS or packet.is_burst:
        return HIT_TOO_OFTEN
    return 0


def call_flip(house, numbers):
    """5: turn one bit of a packet."""
    place = numbers[2]
    bit = numbers[3]
    refusal = flip_refusal(house, numbers[0], numbers[1], place, bit)
    if refusal < 0:
        return [refusal]
    packet = house.streams[numbers[0]].packets[numbers[1]]
    turn_bit(packet, 8 * place + 7 - bit)
    packet.flips += 1
    return [0]


def burst_refusal(house, key, i, bit, pattern):
    """Why a packet can't be hit by a burst, or 0."""
    if not within(bit, 0, 99999) or not within(pattern, 1, 4294967295):
        return OUT_OF_RANGE
    refusal = packet_refusal(house, key, i)
    if refusal < 0:
        return refusal
    packet = house.streams[key].packets[i]
    if bit >= 8 * len(packet.octets):
        return BEHIND_END
    if packet.flips > 0 or packet.is_burst:
        return HIT_TOO_OFTEN
    return 0


def call_burst(house, numbers):
    """6: turn bits of a packet by a pattern, as far as the packet reaches."""
    bit = numbers[2]
    pattern = numbers[3]
    refusal = burst_refusal(house, numbers[0], numbers[1], bit, pattern)
    if refusal < 0:
        return [refusal]
    packet = house.streams[numbers[0]].packets[numbers[1]]
    for j in range(32):
        if (pattern >> j) & 1 == 1 and bit + j < 8 * len(packet.octets):
            turn_bit(packet, bit + j)
    packet.is_burst = True
    return [0]


def call_lose(house, numbers):
    """7: take a packet away."""
    refusal = packet_refusal(house, numbers[0], numbers[1])
    if refusal < 0:
        return [refusal]
    packets = house.streams[numbers[0]].packets
    packets.pop(numbers[1])
    return [len(packets)]


def call_twice(house, numbers):
    """8: put a packet behind all others once more."""
    refusal = packet_refusal(house, numbers[0], numbers[1])
    if refusal < 0:
        return [refusal]
    packets = house.streams[numbers[0]].packets
    if len(packets) >= MOST_PACKETS:
        return [FULL]
    packets.append(copy_packet(packets[numbers[1]]))
    return [len(packets)]


def give_refusal(house, key, octets):
    """Why bytes can't be put behind a stream's packets, or 0."""
    if not all_octets(octets):
        return OUT_OF_RANGE
    refusal = key_refusal(house.streams, key)
    if refusal < 0:
        return refusal
    if len(house.streams[key].packets) >= MOST_PACKETS:
        return FULL
    return 0


def call_give(house, numbers):
    """10: put a packet of these bytes behind a stream's packets."""
    octets = numbers[1:]
    refusal = give_refusal(house, numbers[0], octets)
    if refusal < 0:
        return [refusal]
    packets = house.streams[numbers[0]].packets
    packets.append(Packet(octets, 0, True))
    return [len(packets)]


CALLS = {
    3: call_packet, 5: call_flip, 6: call_burst, 7: call_lose, 8: call_twice, 10: call_give,
}


def answer_packet_call(house, number, numbers):
    """What the call of this number answers."""
    return CALLS[number](house, numbers)

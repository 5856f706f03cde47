"""The calls 3 packet, 4 packets, 5 flip, 6 burst, 7 lose, 8 twice, 9 turn and 10 give."""

import unittest

from support import (FAR, burst, flip, give, last, lose, noise, pack, packet, packets, picture, ramp, run, slices,
                     turn, twice)

WRONG_KEYS = (0, 100, -1, -FAR, FAR)
WRONG_PLACES = (-1, 100, -FAR, FAR)
BASE = [picture(1, 4, 6, noise(4, 6, 1)), pack(1, 3)]


def told_packets(*calls):
    """The bytes of each packet of stream 1 after some calls."""
    count = last(*BASE, *calls, packets(1))[0]
    told = run(*BASE, *calls, *[packet(1, i) for i in range(count)])
    return [answer[1:] for answer in told[len(told) - count:]]


PLAIN = told_packets()


class PacketTest(unittest.TestCase):
    def test_told(self):
        for i in range(3):
            self.assertEqual(last(*BASE, packet(1, i)), [len(PLAIN[i])] + PLAIN[i])

    def test_refusals(self):
        for wrong in WRONG_KEYS:
            self.assertEqual(last(*BASE, packet(wrong, 0)), [-1])
        for wrong in WRONG_PLACES:
            self.assertEqual(last(*BASE, packet(1, wrong)), [-1])
            self.assertEqual(last(*BASE, packet(2, wrong)), [-1])
        self.assertEqual(last(*BASE, packet(2, 0)), [-4])
        self.assertEqual(last(*BASE, packet(1, 3)), [-4])
        self.assertEqual(last(*BASE, packet(1, 99)), [-4])

    def test_empty_packet(self):
        self.assertEqual(last(*BASE, give(1, []), packet(1, 3)), [0])


class PacketsTest(unittest.TestCase):
    def test_told(self):
        self.assertEqual(last(*BASE, packets(1)), [3] + [len(octets) for octets in PLAIN])
        self.assertEqual(last(*BASE, give(1, [1, 2]), packets(1))[4:], [2])
        self.assertEqual(last(*BASE, lose(1, 0), lose(1, 0), lose(1, 0), packets(1)), [0])

    def test_refusals(self):
        for wrong in WRONG_KEYS:
            self.assertEqual(last(*BASE, packets(wrong)), [-1])
        self.assertEqual(last(*BASE, packets(2)), [-4])


class FlipTest(unittest.TestCase):
    def test_every_bit(self):
        for byte in (0, 5, len(PLAIN[1]) - 1):
            for bit in range(8):
                self.assertEqual(last(*BASE, flip(1, 1, byte, bit)), [0])
                hit = list(PLAIN[1])
                hit[byte] ^= 2 ** bit
                self.assertEqual(told_packets(flip(1, 1, byte, bit)), [PLAIN[0], hit, PLAIN[2]])

    def test_twice_in_one_bit_is_as_before(self):
        self.assertEqual(told_packets(flip(1, 1, 3, 2), flip(1, 1, 3, 2)), PLAIN)

    def test_refusals(self):
        for wrong in (-1, 10000, -FAR, FAR):
            self.assertEqual(last(*BASE, flip(1, 0, wrong, 0)), [-1])
            self.assertEqual(last(*BASE, flip(2, 0, wrong, 0)), [-1])
        for wrong in (-1, 8, -FAR, FAR):
            self.assertEqual(last(*BASE, flip(1, 0, 0, wrong)), [-1])
            self.assertEqual(last(*BASE, flip(1, 50, 0, wrong)), [-1])
        for wrong in WRONG_KEYS:
            self.assertEqual(last(*BASE, flip(wrong, 0, 0, 0)), [-1])
        for wrong in WRONG_PLACES:
            self.assertEqual(last(*BASE, flip(1, wrong, 0, 0)), [-1])
            self.assertEqual(last(*BASE, flip(2, wrong, 0, 0)), [-1])
        self.assertEqual(last(*BASE, flip(2, 0, 0, 0)), [-4])
        self.assertEqual(last(*BASE, flip(1, 3, 9999, 0)), [-4])

    def test_behind_the_end(self):
        size = len(PLAIN[0])
        self.assertEqual(last(*BASE, flip(1, 0, size - 1, 0)), [0])
        self.assertEqual(last(*BASE, flip(1, 0, size, 7)), [-3])
        self.assertEqual(last(*BASE, flip(1, 0, 9999, 0)), [-3])
        self.assertEqual(last(*BASE, give(1, []), flip(1, 3, 0, 0)), [-3])

    def test_three_times(self):
        self.assertEqual(run(*BASE, *[flip(1, 0, 2, bit) for bit in range(4)])[2:], [[0], [0], [0], [-8]])
        self.assertEqual(run(*BASE, *[flip(1, 0, 2, 5)] * 5)[2:], [[0], [0], [0], [-8], [-8]])
        self.assertEqual(last(*BASE, *[flip(1, 0, 2, 5)] * 3, flip(1, 0, 500, 5)), [-3])
        self.assertEqual(last(*BASE, *[flip(1, 0, 2, 5)] * 3, flip(1, 1, 2, 5)), [0])

    def test_after_burst(self):
        self.assertEqual(last(*BASE, burst(1, 0, 0, 1), flip(1, 0, 0, 0)), [-8])
        self.assertEqual(last(*BASE, burst(1, 0, 0, 1), flip(1, 0, 500, 0)), [-3])
        self.assertEqual(last(*BASE, burst(1, 0, 0, 1), flip(1, 1, 0, 0)), [0])

    def test_refused_changes_nothing(self):
        three = [flip(1, 0, 2, bit) for bit in range(3)]
        self.assertEqual(told_packets(*three, flip(1, 0, 2, 7)), told_packets(*three))
        # A flip that was refused doesn't count.
        self.assertEqual(last(*BASE, *[flip(1, 0, 500, 0)] * 4, flip(1, 0, 0, 0)), [0])


class BurstTest(unittest.TestCase):
    def hit(self, octets, bit, pattern):
        digits = list("".join(f"{octet:08b}" for octet in octets))
        for j in range(32):
            if pattern & 2 ** j and bit + j < len(digits):
                digits[bit + j] = "10"[int(digits[bit + j])]
        return [int("".join(digits[at:at + 8]), 2) for at in range(0, len(digits), 8)]

    def test_bits_turned(self):
        end = 8 * len(PLAIN[2])
        for bit in (0, 1, 7, 8, 37, end - 32, end - 31, end - 9, end - 1):
            for pattern in (1, 2, 3, 128, 2147483648, 2863311530, 4294967295):
                call = burst(1, 2, bit, pattern)
                self.assertEqual(last(*BASE, call), [0])
                self.assertEqual(told_packets(call), PLAIN[:2] + [self.hit(PLAIN[2], bit, pattern)])

    def test_first_bit_is_the_first_bytes_highest(self):
        hit = [PLAIN[0][0] ^ 128] + PLAIN[0][1:]
        self.assertEqual(told_packets(burst(1, 0, 0, 1))[0], hit)

    def test_refusals(self):
        for wrong in (-1, 100000, -FAR, FAR):
            self.assertEqual(last(*BASE, burst(1, 0, wrong, 1)), [-1])
            self.assertEqual(last(*BASE, burst(2, 0, wrong, 1)), [-1])
        for wrong in (0, -1, 4294967296, -FAR, FAR):
            self.assertEqual(last(*BASE, burst(1, 0, 0, wrong)), [-1])
            self.assertEqual(last(*BASE, burst(1, 40, 0, wrong)), [-1])
        for wrong in WRONG_KEYS:
            self.assertEqual(last(*BASE, burst(wrong, 0, 0, 1)), [-1])
        for wrong in WRONG_PLACES:
            self.assertEqual(last(*BASE, burst(1, wrong, 0, 1)), [-1])
        self.assertEqual(last(*BASE, burst(2, 0, 0, 1)), [-4])
        self.assertEqual(last(*BASE, burst(1, 3, 99999, 1)), [-4])

    def test_behind_the_end(self):
        end = 8 * len(PLAIN[0])
        self.assertEqual(last(*BASE, burst(1, 0, end, 1)), [-3])
        self.assertEqual(last(*BASE, burst(1, 0, 99999, 1)), [-3])
        self.assertEqual(last(*BASE, give(1, []), burst(1, 3, 0, 1)), [-3])
        self.assertEqual(last(*BASE, burst(1, 0, 0, 1), burst(1, 0, end, 1)), [-3])

    def test_a_burst_that_turns_nothing_counts(self):
        end = 8 * len(PLAIN[0])
        nothing = burst(1, 0, end - 1, 2)
        self.assertEqual(told_packets(nothing), PLAIN)
        self.assertEqual(last(*BASE, nothing, burst(1, 0, 0, 1)), [-8])
        self.assertEqual(last(*BASE, nothing, flip(1, 0, 0, 1)), [-8])

    def test_hit_too_often(self):
        self.assertEqual(last(*BASE, burst(1, 0, 0, 1), burst(1, 0, 0, 1)), [-8])
        self.assertEqual(last(*BASE, flip(1, 0, 0, 1), burst(1, 0, 0, 1)), [-8])
        self.assertEqual(last(*BASE, flip(1, 0, 0, 1), flip(1, 0, 0, 1), burst(1, 0, 0, 1)), [-8])
        self.assertEqual(last(*BASE, give(1, [1, 2]), burst(1, 3, 0, 1)), [-8])
        self.assertEqual(last(*BASE, flip(1, 0, 0, 1), burst(1, 1, 0, 1)), [0])

    def test_refused_changes_nothing(self):
        first = burst(1, 0, 9, 77)
        self.assertEqual(told_packets(first, burst(1, 0, 9, 77), burst(1, 1, 0, 0)), told_packets(first))


class LoseTest(unittest.TestCase):
    def test_those_behind_move_up(self):
        self.assertEqual(last(*BASE, lose(1, 1)), [2])
        self.assertEqual(told_packets(lose(1, 1)), [PLAIN[0], PLAIN[2]])
        self.assertEqual(told_packets(lose(1, 0)), PLAIN[1:])
        self.assertEqual(told_packets(lose(1, 2)), PLAIN[:2])

    def test_to_the_last(self):
        self.assertEqual(run(*BASE, *[lose(1, 0)] * 4)[2:], [[2], [1], [0], [-4]])

    def test_refusals(self):
        for wrong in WRONG_KEYS:
            self.assertEqual(last(*BASE, lose(wrong, 0)), [-1])
        for wrong in WRONG_PLACES:
            self.assertEqual(last(*BASE, lose(1, wrong)), [-1])
            self.assertEqual(last(*BASE, lose(2, wrong)), [-1])
        self.assertEqual(last(*BASE, lose(2, 0)), [-4])
        self.assertEqual(last(*BASE, lose(1, 3)), [-4])
        self.assertEqual(told_packets(lose(1, 3), lose(1, -1), lose(2, 0)), PLAIN)

    def test_hits_move_up_too(self):
        self.assertEqual(last(*BASE, burst(1, 1, 0, 1), lose(1, 0), flip(1, 0, 0, 0)), [-8])


class TwiceTest(unittest.TestCase):
    def test_behind_all_others(self):
        self.assertEqual(last(*BASE, twice(1, 1)), [4])
        self.assertEqual(told_packets(twice(1, 1)), PLAIN + [PLAIN[1]])

    def test_twentieth_and_twenty_first(self):
        told = run(*BASE, *[twice(1, 0)] * 18, packets(1))
        self.assertEqual(told[2:-1], [[count] for count in range(4, 21)] + [[-9]])
        self.assertEqual(told[-1][0], 20)

    def test_refusals(self):
        full = [*BASE, *[twice(1, 0)] * 17]
        for wrong in WRONG_KEYS:
            self.assertEqual(last(*full, twice(wrong, 0)), [-1])
        for wrong in WRONG_PLACES:
            self.assertEqual(last(*full, twice(1, wrong)), [-1])
        self.assertEqual(last(*full, twice(2, 0)), [-4])
        self.assertEqual(last(*full, twice(1, 20)), [-4])
        self.assertEqual(last(*BASE, twice(1, 3)), [-4])
        self.assertEqual(last(*full, twice(1, 19)), [-9])

    def test_as_it_is_with_its_hits(self):
        told = run(*BASE, flip(1, 0, 1, 1), flip(1, 0, 1, 2), twice(1, 0), *[flip(1, 3, 1, 3)] * 2)
        self.assertEqual(told[-2:], [[0], [-8]])
        self.assertEqual(last(*BASE, burst(1, 0, 1, 1), twice(1, 0), flip(1, 3, 0, 0)), [-8])
        self.assertEqual(last(*BASE, give(1, [7]), twice(1, 3), burst(1, 4, 0, 1)), [-8])

    def test_hit_apart_from_then_on(self):
        told = told_packets(twice(1, 0), flip(1, 0, 4, 4))
        self.assertEqual(told[1:], PLAIN[1:] + [PLAIN[0]])
        self.assertNotEqual(told[0], PLAIN[0])
        self.assertEqual(last(*BASE, twice(1, 0), *[flip(1, 0, 4, 4)] * 3, flip(1, 3, 4, 4)), [0])


class TurnTest(unittest.TestCase):
    def test_opposite_order(self):
        self.assertEqual(last(*BASE, turn(1)), [3])
        self.assertEqual(told_packets(turn(1)), PLAIN[::-1])
        self.assertEqual(told_packets(turn(1), turn(1)), PLAIN)
        self.assertEqual(last(*BASE, *[lose(1, 0)] * 3, turn(1)), [0])

    def test_refusals(self):
        for wrong in WRONG_KEYS:
            self.assertEqual(last(*BASE, turn(wrong)), [-1])
        self.assertEqual(last(*BASE, turn(2)), [-4])

    def test_hits_turn_too(self):
        self.assertEqual(last(*BASE, burst(1, 0, 0, 1), turn(1), flip(1, 2, 0, 0)), [-8])
        self.assertEqual(last(*BASE, burst(1, 0, 0, 1), turn(1), flip(1, 0, 0, 0)), [0])


class GiveTest(unittest.TestCase):
    def test_behind_the_others(self):
        for octets in ([], [0], [255], list(range(256)), [1] * 1599, [1] * 1600):
            self.assertEqual(last(*BASE, give(1, octets)), [4])
            self.assertEqual(told_packets(give(1, octets)), PLAIN + [octets])

    def test_refusals(self):
        for wrong in ([1] * 1601, [1] * 1700, [256], [-1], [1, 2, FAR], [-FAR, 0]):
            self.assertEqual(last(*BASE, give(1, wrong)), [-1])
            self.assertEqual(last(*BASE, give(2, wrong)), [-1])
        for wrong in WRONG_KEYS:
            self.assertEqual(last(*BASE, give(wrong, [1])), [-1])
        self.assertEqual(last(*BASE, give(2, [1])), [-4])
        self.assertEqual(told_packets(give(1, [256]), give(1, [1] * 1601), give(2, [1])), PLAIN)

    def test_twentieth_and_twenty_first(self):
        told = run(*BASE, *[give(1, [i]) for i in range(18)], packets(1))
        self.assertEqual(told[2:-1], [[count] for count in range(4, 21)] + [[-9]])
        self.assertEqual(told[-1][0], 20)
        full = [*BASE, *[give(1, [i]) for i in range(17)]]
        self.assertEqual(last(*full, give(1, [256])), [-1])
        self.assertEqual(last(*full, give(0, [1])), [-1])
        self.assertEqual(last(*full, give(2, [1])), [-4])
        self.assertEqual(last(*full, lose(1, 5), give(1, [1])), [20])

    def test_counts_as_hit_by_a_burst(self):
        self.assertEqual(last(*BASE, give(1, [1, 2]), flip(1, 3, 0, 0)), [-8])
        self.assertEqual(last(*BASE, give(1, [1, 2]), flip(1, 3, 2, 0)), [-3])
        self.assertEqual(last(*BASE, give(1, [1, 2]), burst(1, 3, 15, 1)), [-8])
        self.assertEqual(last(*BASE, give(1, [1, 2]), burst(1, 3, 16, 1)), [-3])


class OtherStreamsTest(unittest.TestCase):
    def test_calls_touch_their_own_stream_alone(self):
        base = [*BASE, picture(2, 4, 6, ramp(4, 6)), pack(2, 3)]
        kept = run(*base, *[packet(2, i) for i in range(3)], slices(2))[-4:]
        for call in (flip(1, 0, 0, 0), burst(1, 1, 3, 9), lose(1, 0), twice(1, 2), turn(1), give(1, [3])):
            self.assertEqual(run(*base, call, *[packet(2, i) for i in range(3)], slices(2))[-4:], kept)


if __name__ == "__main__":
    unittest.main()

"""The calls 11 slices and 12 unpack."""

import unittest

from packedframes.codes import coded
from support import (FAR, burst, flat, flip, give, last, lose, near, noise, pack, packet, picture, ramp, run, seal,
                     slices, turn, twice, unpack)

GREYS = noise(3, 8, 1)
BASE = [picture(1, 3, 8, GREYS), pack(1, 4)]


def bytes_of(calls, key, i):
    return last(*calls, packet(key, i))[1:]


def rows(*numbers):
    """The values of some rows of GREYS."""
    return [grey for y in numbers for grey in GREYS[3 * y:3 * y + 3]]


def halves(upper, lower):
    return [(a + b) // 2 for a, b in zip(rows(upper), rows(lower))]


class SlicesTest(unittest.TestCase):
    def test_all_read(self):
        self.assertEqual(last(*BASE, slices(1)), [4, 2, 2, 2, 2])

    def test_lost(self):
        self.assertEqual(last(*BASE, lose(1, 2), slices(1)), [4, 2, 2, 0, 2])
        self.assertEqual(last(*BASE, *[lose(1, 0)] * 4, slices(1)), [4, 0, 0, 0, 0])

    def test_hit(self):
        self.assertEqual(last(*BASE, flip(1, 0, 11, 3), burst(1, 3, 5, 77), slices(1)), [4, 0, 2, 2, 0])

    def test_turned_back(self):
        self.assertEqual(last(*BASE, flip(1, 0, 11, 3), flip(1, 0, 11, 3), slices(1)), [4, 2, 2, 2, 2])

    def test_refusals(self):
        for wrong in (0, 100, -1, -FAR, FAR):
            self.assertEqual(last(*BASE, slices(wrong)), [-1])
            self.assertEqual(last(*BASE, unpack(wrong)), [-1])
        # A picture of a key is no stream of it.
        self.assertEqual(last(*BASE, picture(2, 1, 1, [5]), slices(2)), [-4])
        self.assertEqual(last(*BASE, picture(2, 1, 1, [5]), unpack(2)), [-4])
        self.assertEqual(last(*BASE, slices(99)), [-4])
        self.assertEqual(last(*BASE, unpack(99)), [-4])


class UnpackTest(unittest.TestCase):
    def test_all_read(self):
        self.assertEqual(last(*BASE, unpack(1)), [3, 8] + GREYS)

    def test_between_two_rows(self):
        told = last(*BASE, lose(1, 1), unpack(1))
        self.assertEqual(told, [3, 8] + rows(0, 1) + halves(1, 4) * 2 + rows(4, 5, 6, 7))

    def test_between_two_rows_over_several_slices(self):
        told = last(*BASE, lose(1, 1), lose(1, 1), unpack(1))
        self.assertEqual(told, [3, 8] + rows(0, 1) + halves(1, 6) * 4 + rows(6, 7))

    def test_half_is_rounded_down(self):
        calls = [picture(1, 2, 3, [0, 1022, 7, 7, 1, 1023]), pack(1, 3), lose(1, 1), unpack(1)]
        self.assertEqual(last(*calls), [2, 3, 0, 1022, 0, 1022, 1, 1023])

    def test_only_below(self):
        told = last(*BASE, lose(1, 0), unpack(1))
        self.assertEqual(told, [3, 8] + rows(2, 2, 2, 3, 4, 5, 6, 7))

    def test_only_above(self):
        told = last(*BASE, lose(1, 3), unpack(1))
        self.assertEqual(told, [3, 8] + rows(0, 1, 2, 3, 4, 5, 5, 5))

    def test_only_one_slice(self):
        told = last(*BASE, lose(1, 3), lose(1, 2), lose(1, 0), unpack(1))
        self.assertEqual(told, [3, 8] + rows(2, 2, 2, 3, 3, 3, 3, 3))

    def test_none(self):
        self.assertEqual(last(*BASE, *[lose(1, 0)] * 4, unpack(1)), [3, 8] + [512] * 24)

    def test_nothing_is_changed_by_reading(self):
        told = run(*BASE, lose(1, 1), unpack(1), slices(1), unpack(1), slices(1))
        self.assertEqual(told[-4:-2], told[-2:])


class GivenTest(unittest.TestCase):
    """Packets put in by give, where slice 1 has lost its own."""

    def setUp(self):
        self.own = bytes_of(BASE, 1, 1)
        self.lost = [*BASE, lose(1, 1)]

    def state(self, octets):
        return last(*self.lost, give(1, octets), slices(1))[2]

    def test_the_very_packet(self):
        self.assertEqual(self.state(self.own), 2)
        self.assertEqual(last(*self.lost, give(1, self.own), unpack(1)), [3, 8] + GREYS)

    def test_too_short(self):
        for size in range(len(self.own)):
            self.assertEqual(self.state(self.own[:size]), 0, size)
            if size >= 4:
                self.assertEqual(self.state(seal(self.own[:size - 4])), 0, size)
        # Sealed, with the right first ten bytes, but nothing coded.
        self.assertEqual(self.state(seal(self.own[:10])), 0)

    def test_too_long(self):
        # Zeros behind the check leave a packet sealed.
        for behind in ([0], [0] * 4, [0] * 20, [1], [255] * 4, [0] * 1500):
            self.assertEqual(self.state(self.own + behind), 0)
            self.assertEqual(self.state(seal(self.own[:-4] + behind)), 0)

    def test_wrong_first_bytes(self):
        for place in range(10):
            for other in range(256):
                octets = list(self.own[:-4])
                if octets[place] == other:
                    continue
                octets[place] = other
                told = last(*self.lost, give(1, seal(octets)), slices(1))
                if place != 4 or other > 4:
                    self.assertEqual(told, [4, 2, 0, 2, 2], (place, other))

    def test_every_mode(self):
        for mode in range(5):
            octets = seal(self.own[:4] + [mode] + self.own[5:10] + coded(rows(2, 3), 3, mode, []))
            self.assertEqual(self.state(octets), 2)
            self.assertEqual(last(*self.lost, give(1, octets), unpack(1)), [3, 8] + GREYS)

    def test_mode_5_without_a_reference_does_not_fit(self):
        octets = seal(self.own[:4] + [5] + self.own[5:10] + coded(rows(2, 3), 3, 5, flat(3, 2)))
        self.assertEqual(self.state(octets), 0)

    def test_foreign(self):
        others = [picture(2, 3, 8, GREYS), pack(2, 4)]
        foreign = bytes_of([*BASE, *others], 2, 1)
        self.assertEqual(last(*self.lost, *others, give(1, foreign), slices(1)), [4, 2, 0, 2, 2])

    def test_from_before_it_was_packed_anew(self):
        self.assertEqual(last(*BASE, pack(1, 4), lose(1, 1), give(1, self.own), slices(1)), [4, 2, 0, 2, 2])

    def test_check_wrong(self):
        for place in range(len(self.own)):
            octets = list(self.own)
            octets[place] ^= 255
            self.assertEqual(self.state(octets), 0)

    def test_coded_bytes_wrong(self):
        # An escape for a number that has a shorter code; ones behind the end.
        self.assertEqual(self.state(seal(self.own[:4] + [0] + self.own[5:10] + [255, 240, 0, 0, 0, 0])), 0)
        whole = coded(flat(3, 2, 512), 3, 0, [])
        self.assertEqual(self.state(seal(self.own[:4] + [0] + self.own[5:10] + whole)), 2)
        self.assertEqual(self.state(seal(self.own[:4] + [0] + self.own[5:10] + whole[:-1] + [whole[-1] | 1])), 0)

    def test_the_first_that_is_decoded_counts(self):
        other = seal(self.own[:4] + [0] + self.own[5:10] + coded(flat(3, 2, 9), 3, 0, []))
        broken = seal(self.own[:10])
        told = last(*self.lost, give(1, broken), give(1, self.own), give(1, other), unpack(1))
        self.assertEqual(told, [3, 8] + GREYS)
        told = last(*self.lost, give(1, broken), give(1, other), give(1, self.own), unpack(1))
        self.assertEqual(told, [3, 8] + rows(0, 1) + [9] * 6 + rows(4, 5, 6, 7))
        told = last(*self.lost, give(1, other), give(1, self.own), turn(1), unpack(1))
        self.assertEqual(told, [3, 8] + GREYS)


class ReferenceTest(unittest.TestCase):
    """Stream 2 is packed by difference from stream 1, stream 3 from stream 2."""

    def setUp(self):
        self.second = near(GREYS, 2)
        self.third = near(self.second, 3)
        self.base = [*BASE, picture(2, 3, 8, self.second), picture(3, 3, 8, self.third), pack(2, 4, 1), pack(3, 4, 2)]

    def test_by_mode_5(self):
        for key in (2, 3):
            for i in range(4):
                self.assertEqual(bytes_of(self.base, key, i)[4], 5)

    def test_read(self):
        told = run(*self.base, slices(2), slices(3), unpack(2), unpack(3))
        self.assertEqual(told[-4:-2], [[4, 2, 2, 2, 2]] * 2)
        self.assertEqual(told[-2:], [[3, 8] + self.second, [3, 8] + self.third])

    def test_waits_where_the_reference_is_lost(self):
        told = run(*self.base, lose(1, 2), slices(1), slices(2), slices(3))
        self.assertEqual(told[-3:], [[4, 2, 2, 0, 2], [4, 2, 2, 1, 2], [4, 2, 2, 1, 2]])

    def test_waits_where_the_reference_is_hit(self):
        told = run(*self.base, flip(2, 0, 12, 0), slices(1), slices(2), slices(3))
        self.assertEqual(told[-3:], [[4, 2, 2, 2, 2], [4, 0, 2, 2, 2], [4, 1, 2, 2, 2]])

    def test_not_there_rather_than_waiting(self):
        told = run(*self.base, lose(1, 2), lose(2, 2), slices(1), slices(2), slices(3))
        self.assertEqual(told[-3:], [[4, 2, 2, 0, 2], [4, 2, 2, 0, 2], [4, 2, 2, 1, 2]])

    def test_waiting_packet_beside_a_hit_one(self):
        told = run(*self.base, lose(1, 2), twice(2, 2), flip(2, 2, 12, 1), slices(2), flip(2, 4, 12, 1), slices(2))
        self.assertEqual([told[-3], told[-1]], [[4, 2, 2, 1, 2], [4, 2, 2, 0, 2]])

    def test_rows_that_wait_are_made_up(self):
        told = last(*self.base, lose(1, 3), unpack(2))
        self.assertEqual(told, [3, 8] + self.second[:18] + self.second[15:18] * 2)

    def test_read_again_once_the_reference_is(self):
        lost = [*self.base, lose(1, 2)]
        own = bytes_of(BASE, 1, 2)
        self.assertEqual(last(*lost, give(1, own), slices(3)), [4, 2, 2, 2, 2])
        self.assertEqual(last(*lost, give(1, own), unpack(3)), [3, 8] + self.third)

    def test_all_wait_when_the_reference_is_packed_anew(self):
        told = run(*self.base, pack(1, 4), slices(1), slices(2), slices(3), unpack(3))
        self.assertEqual(told[-4:], [[4, 2, 2, 2, 2], [4, 1, 1, 1, 1], [4, 1, 1, 1, 1], [3, 8] + [512] * 24])

    def test_coded_bytes_are_not_looked_at_while_waiting(self):
        broken = seal(bytes_of(self.base, 2, 2)[:10] + [255, 255])
        self.assertEqual(last(*self.base, lose(2, 2), give(2, broken), slices(2)), [4, 2, 2, 0, 2])
        self.assertEqual(last(*self.base, lose(1, 2), lose(2, 2), give(2, broken), slices(2)), [4, 2, 2, 1, 2])
        # With nothing coded it still fits, having 14 bytes; with 13 it doesn't.
        bare = seal(bytes_of(self.base, 2, 2)[:10])
        self.assertEqual(last(*self.base, lose(1, 2), lose(2, 2), give(2, bare), slices(2)), [4, 2, 2, 1, 2])
        short = seal(bytes_of(self.base, 2, 2)[:9])
        self.assertEqual(last(*self.base, lose(1, 2), lose(2, 2), give(2, short), slices(2)), [4, 2, 2, 0, 2])

    def test_another_mode_is_read_while_mode_5_waits(self):
        head = bytes_of(self.base, 2, 2)[:10]
        plain = seal(head[:4] + [1] + head[5:] + coded(self.second[12:18], 3, 1, []))
        told = run(*self.base, lose(1, 2), give(2, plain), slices(2), slices(3), unpack(3))
        self.assertEqual(told[-3:], [[4, 2, 2, 2, 2], [4, 2, 2, 2, 2], [3, 8] + self.third])

    def test_by_the_values_read_of_the_reference(self):
        # One row alone, so that no context hangs on the values.
        base = [picture(1, 3, 1, [600, 610, 620]), picture(2, 3, 1, [601, 610, 618]), pack(1), pack(2, 1, 1)]
        self.assertEqual(bytes_of(base, 2, 0)[4], 5)
        other = seal(bytes_of(base, 1, 0)[:4] + [0] + bytes_of(base, 1, 0)[5:10] + coded([40, 50, 1], 3, 0, []))
        self.assertEqual(last(*base, lose(1, 0), give(1, other), unpack(2)), [3, 1, 41, 50, 1023])

    def test_other_reference_bytes_do_not_fit(self):
        own = bytes_of(self.base, 2, 2)[:-4]
        for place in (7, 8, 9):
            octets = list(own)
            octets[place] ^= 2
            self.assertEqual(last(*self.base, lose(2, 2), give(2, seal(octets)), slices(2)), [4, 2, 2, 0, 2])

    def test_long_chain_of_many_waiting_packets(self):
        # Each slice of the chain must be read once, not once for each packet that waits for it.
        base = [picture(key, 2, 1, [500, 900 + key]) for key in range(1, 7)] + [pack(1)]
        for key in range(2, 7):
            base.append(pack(key, 1, key - 1))
            base.extend([twice(key, 0)] * 19)
        told = run(*base, slices(6), lose(1, 0), slices(6), unpack(6))
        self.assertEqual([told[-4], told[-2], told[-1]], [[1, 2], [1, 1], [2, 1, 512, 512]])


class RampTest(unittest.TestCase):
    def test_slices_of_unlike_heights(self):
        greys = ramp(2, 7)
        base = [picture(1, 2, 7, greys), pack(1, 3)]
        # Rows 0 and 1, rows 2 and 3, rows 4 to 6.
        self.assertEqual(last(*base, lose(1, 2), unpack(1)), [2, 7] + greys[:8] + greys[6:8] * 3)
        self.assertEqual(last(*base, lose(1, 0), unpack(1)), [2, 7] + greys[4:6] * 2 + greys[4:])


if __name__ == "__main__":
    unittest.main()

"""Bits, bytes and the check."""

import unittest

from packedframes import bits
from support import noise, seal, slow_check


def mirrored(number, size):
    return int(f"{number:0{size}b}"[::-1], 2)


class CheckTest(unittest.TestCase):
    def test_of_nothing(self):
        self.assertEqual(bits.check([]), 4294967295)

    def test_single_bytes(self):
        for octet in range(256):
            self.assertEqual(bits.check([octet]), slow_check([octet]))

    def test_long_rows(self):
        for size in (2, 3, 10, 100, 1600):
            octets = noise(size, 1, seed=size, greatest=255)
            self.assertEqual(bits.check(octets), slow_check(octets))

    def test_known_vector(self):
        # The same polynomial, mirrored, is in wide use: 123456789 has 0xE3069283 there.
        octets = [mirrored(ord(sign), 8) for sign in "123456789"]
        self.assertEqual(mirrored(bits.check(octets), 32) ^ 0xFFFFFFFF, 0xE3069283)

    def test_sealed(self):
        for octets in ([], [0], [255, 1, 2], list(range(200))):
            self.assertEqual(bits.sealed(octets), seal(octets))
            self.assertTrue(bits.is_sealed(seal(octets)))

    def test_not_sealed(self):
        for octets in ([], [255, 255, 255], [0, 0, 0, 0], [255, 255, 255, 254], seal([1, 2]) + [1], seal([1, 2])[1:]):
            self.assertFalse(bits.is_sealed(octets), octets)

    def test_zeros_behind_leave_it_sealed(self):
        # So the check alone doesn't tell that a packet is too long: decoding must.
        self.assertTrue(bits.is_sealed(seal([1, 2]) + [0]))
        self.assertTrue(bits.is_sealed(seal([1, 2]) + [0, 0, 0, 0, 0]))

    def test_four_bytes_may_be_sealed(self):
        self.assertTrue(bits.is_sealed([255, 255, 255, 255]))


class BitsTest(unittest.TestCase):
    def test_number_as_octets(self):
        self.assertEqual(bits.octets_of_number(1, 2), [0, 1])
        self.assertEqual(bits.octets_of_number(258, 2), [1, 2])
        self.assertEqual(bits.octets_of_number(4294967295, 4), [255] * 4)

    def test_highest_first(self):
        self.assertEqual(bits.bits_of_octets([128, 1]), [1] + [0] * 14 + [1])

    def test_filled_with_zeros(self):
        self.assertEqual(bits.octets_of_bits([]), [])
        self.assertEqual(bits.octets_of_bits([1]), [128])
        self.assertEqual(bits.octets_of_bits([0] * 7 + [1]), [1])
        self.assertEqual(bits.octets_of_bits([0] * 8 + [1, 1]), [0, 192])

    def test_number_at(self):
        self.assertEqual(bits.number_at([1, 0, 1, 1], 1, 3), 3)
        self.assertEqual(bits.number_at([1, 0, 1, 1], 4, 0), 0)
        self.assertEqual(bits.number_at([1, 0, 1, 1], 2, 3), -1)
        self.assertEqual(bits.number_at([1, 0, 1, 1], 5, 0), -1)


if __name__ == "__main__":
    unittest.main()

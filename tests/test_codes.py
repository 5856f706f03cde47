"""Codes of numbers, and slices coded and decoded."""

import unittest

import plainhouse
from packedframes.codes import Contexts, code, code_length, coded, decoded, read_code
from support import edges, flat, near, noise, ramp


def digits(text):
    return [int(sign) for sign in text]


def octets(text):
    text += "0" * (-len(text) % 8)
    return [int(text[at:at + 8], 2) for at in range(0, len(text), 8)]


class CodeTest(unittest.TestCase):
    def test_written_out(self):
        self.assertEqual(code(0, 0), [0])
        self.assertEqual(code(3, 0), [1, 1, 1, 0])
        self.assertEqual(code(11, 0), [1] * 11 + [0])
        self.assertEqual(code(12, 0), digits("111111111111" "0000001100"))
        self.assertEqual(code(6, 2), digits("10" "10"))
        self.assertEqual(code(47, 2), digits("111111111110" "11"))
        self.assertEqual(code(48, 2), digits("111111111111" "0000110000"))
        self.assertEqual(code(1023, 6), digits("111111111111" "1111111111"))
        self.assertEqual(code(1023, 10), digits("0" "1111111111"))

    def test_every_code_is_read(self):
        for k in range(11):
            for number in range(1024):
                bits = code(number, k)
                self.assertEqual("".join(map(str, bits)), plainhouse.code(number, k))
                self.assertEqual(code_length(number, k), len(bits))
                self.assertEqual(read_code([1] + bits + [1], 1, k), number)
                self.assertEqual(read_code(bits, 0, k), number)
                self.assertEqual(read_code(bits[:-1], 0, k), -1)

    def test_no_code(self):
        self.assertEqual(read_code([], 0, 0), -1)
        self.assertEqual(read_code([1] * 11, 0, 0), -1)
        self.assertEqual(read_code([1] * 12, 0, 0), -1)

    def test_escape_only_where_needed(self):
        self.assertEqual(read_code(digits("1" * 12 + "0000001011"), 0, 0), -1)
        self.assertEqual(read_code(digits("1" * 12 + "0000001100"), 0, 0), 12)
        self.assertEqual(read_code(digits("1" * 12 + "1011111111"), 0, 6), -1)
        self.assertEqual(read_code(digits("1" * 12 + "1100000000"), 0, 6), 768)
        for k in (7, 8, 9, 10):
            self.assertEqual(read_code(digits("1" * 22), 0, k), -1)

    def test_not_above_1023(self):
        self.assertEqual(read_code(digits("11111110" "1111111"), 0, 7), 1023)
        self.assertEqual(read_code(digits("111111110" "0000000"), 0, 7), -1)
        self.assertEqual(read_code(digits("10" "0000000000"), 0, 10), -1)


class ContextsTest(unittest.TestCase):
    def test_first_k(self):
        self.assertEqual([Contexts().find_k(context) for context in (0, 1, 2)], [2, 2, 2])

    def test_k_by_sum_and_count(self):
        contexts = Contexts()
        for total, count, k in ((0, 1, 0), (1, 1, 0), (2, 1, 1), (3, 1, 2), (5, 1, 3), (512, 1, 9), (513, 1, 10),
                                (1023 * 31, 31, 10), (31, 31, 0), (32, 31, 1), (9 * 512, 9, 9), (9 * 512 + 1, 9, 10)):
            contexts.sums[1] = total
            contexts.counts[1] = count
            self.assertEqual(contexts.find_k(1), k, (total, count))

    def test_learning_is_apart(self):
        contexts = Contexts()
        contexts.learn(1, 1000)
        self.assertEqual((contexts.sums, contexts.counts), ([4, 1004, 4], [1, 2, 1]))

    def test_halved_at_32(self):
        contexts = Contexts()
        for number in range(30):
            contexts.learn(0, 1)
        self.assertEqual((contexts.sums[0], contexts.counts[0]), (34, 31))
        contexts.learn(0, 1)
        self.assertEqual((contexts.sums[0], contexts.counts[0]), (17, 16))
        for number in range(16):
            contexts.learn(0, 2)
        self.assertEqual((contexts.sums[0], contexts.counts[0]), (24, 16))


class CodedTest(unittest.TestCase):
    def test_written_out(self):
        self.assertEqual(coded([512], 1, 0, []), octets("000"))
        self.assertEqual(coded([513], 1, 0, []), octets("010"))
        self.assertEqual(coded([511], 1, 0, []), octets("001"))
        self.assertEqual(coded([0], 1, 0, []), octets("1" * 12 + "1111111111"))
        self.assertEqual(coded([1023], 1, 0, []), octets("1" * 12 + "1111111110"))
        # The second value's sum and count are 4 and 2, so its k is 1.
        self.assertEqual(coded([512, 513], 2, 0, []), octets("000" "100"))
        self.assertEqual(coded([512, 513], 1, 1, []), octets("000" "100"))
        self.assertEqual(coded([700, 700], 1, 5, [700, 699]), octets("000" "100"))

    def test_as_in_the_second_reading(self):
        for w, h in ((1, 1), (1, 9), (9, 1), (4, 5), (24, 24)):
            for greys in (flat(w, h), ramp(w, h), noise(w, h, 3), edges(w, h), noise(w, h, 4, 500, 520)):
                order = plainhouse.places(w, range(h))
                reference = near(greys, 5, 6)
                for mode in range(6):
                    told = plainhouse.coded(dict(zip(order, greys)), mode, dict(zip(order, reference)), order)
                    self.assertEqual(coded(greys, w, mode, reference), told)
                    self.assertEqual(decoded(told, w * h, w, mode, reference), greys)


class DecodedTest(unittest.TestCase):
    def test_zeros_left(self):
        self.assertEqual(decoded(octets("000"), 1, 1, 0, []), [512])
        self.assertEqual(decoded(octets("0000000"), 1, 1, 0, []), [512])

    def test_ones_left(self):
        for place in range(3, 8):
            self.assertEqual(decoded(octets("0" * place + "1"), 1, 1, 0, []), [])

    def test_too_long(self):
        self.assertEqual(decoded([0, 0], 1, 1, 0, []), [])
        # Here a code ends with its byte: not even a byte of zeros may follow.
        full = octets("1" * 5 + "0" + "00")
        self.assertEqual(decoded(full, 1, 1, 0, []), [522])
        self.assertEqual(decoded(full + [0], 1, 1, 0, []), [])

    def test_too_short(self):
        self.assertEqual(decoded([], 1, 1, 0, []), [])
        self.assertEqual(decoded([0], 9, 9, 0, []), [])
        greys = noise(6, 6, 7)
        whole = coded(greys, 6, 4, [])
        self.assertEqual(decoded(whole[:-1], 36, 6, 4, []), [])
        self.assertEqual(decoded(whole, 37, 6, 4, []), [])
        self.assertEqual(decoded(whole, 35, 6, 4, []), [])

    def test_code_not_as_told(self):
        self.assertEqual(decoded(octets("1" * 12 + "0000000111"), 1, 1, 0, []), [])
        self.assertEqual(decoded(octets("1" * 12 + "0000110000"), 1, 1, 0, []), [536])


if __name__ == "__main__":
    unittest.main()
